/- The program's compareOrdered, at numbers and at texts, and the library's Or. -/
import Derived.Test.YtphmlndkjgldkaaSt
namespace Go.Proofs.Ytphmlndkjgldkaa
open Go.RowKit
def ci (x y : Int) : Int := if x < y then -1 else if y < x then 1 else 0
set_option maxRecDepth 100000 in
theorem impl_ordInt (x y : Int) (w : World) :
 Calls Try.prog 116 #[.int .i64 x, .int .i64 y] w fun e w' => e = .returned (.int .i64 (ci x y)) ∧ w' = w := by
 by_cases h1 : x < y
 · rw [show ci x y = -1 by rw [ci, if_pos h1]]
   go_enter Try.func116, Try.ntmps116
   go_wp2
   go_ret
   exact ⟨rfl, rfl⟩
 · by_cases h2 : y < x
   · rw [show ci x y = 1 by rw [ci, if_neg h1, if_pos h2]]
     go_enter Try.func116, Try.ntmps116
     go_wp2
     go_ret
     exact ⟨rfl, rfl⟩
   · rw [show ci x y = 0 by rw [ci, if_neg h1, if_neg h2]]
     go_enter Try.func116, Try.ntmps116
     go_wp2
     go_ret
     exact ⟨rfl, rfl⟩
set_option maxRecDepth 100000 in
theorem impl_ordStr (zs ys : List Int) (hz : inB zs) (hy : inB ys) (w : World) :
 Calls Try.prog 122 #[.string (str zs), .string (str ys)] w fun e w' => e = .returned (.int .i64 (txt zs ys)) ∧ w' = w := by
 have e1 := less_txt zs ys hz hy
 have e2 := eq_txt zs ys hz hy
 rw [← str_list, ← str_list] at e1 e2
 have hr := txt_range zs ys
 generalize str zs = s at *
 generalize str ys = t at *
 clear hz hy
 rcases hr with hr | hr | hr
 · rw [hr] at e1 e2 ⊢
   rw [show decide ((-1 : Int) = -1) = true from rfl] at e1
   clear e2 hr
   go_enter Try.func122, Try.ntmps122
   go_wp2
   go_ret
   exact ⟨rfl, rfl⟩
 · rw [hr] at e1 e2 ⊢
   rw [show decide ((0 : Int) = -1) = false from rfl] at e1
   rw [show decide ((0 : Int) = 0) = true from rfl] at e2
   clear hr
   go_enter Try.func122, Try.ntmps122
   go_wp2
   go_ret
   exact ⟨rfl, rfl⟩
 · rw [hr] at e1 e2 ⊢
   rw [show decide ((1 : Int) = -1) = false from rfl] at e1
   rw [show decide ((1 : Int) = 0) = false from rfl] at e2
   clear hr
   go_enter Try.func122, Try.ntmps122
   go_wp2
   go_ret
   exact ⟨rfl, rfl⟩
theorem upto {p : Nat → Prop} {k : Nat} (h : ∀ j, j < k → p j) (hk : p k) : ∀ j, j < k + 1 → p j := by
 intro j hj
 by_cases e : j = k
 · subst e; exact hk
 · exact h j (by omega)
def or4 (a b c d : Int) : Int := if a ≠ 0 then a else if b ≠ 0 then b else if c ≠ 0 then c else d
set_option maxRecDepth 100000 in
set_option maxHeartbeats 1600000 in
theorem cmp_or (a b c d : Int) (g : Nat) (w : World) (c0 : w.cell? ⟨g, 0, none⟩ = some (.int .i64 a)) (c1 : w.cell? ⟨g, 1, none⟩ = some (.int .i64 b)) (c2 : w.cell? ⟨g, 2, none⟩ = some (.int .i64 c)) (c3 : w.cell? ⟨g, 3, none⟩ = some (.int .i64 d)) :
 Calls Try.prog 115 #[.slice (some ⟨g, 0, none⟩) 4 4] w fun e w' => e = .returned (.int .i64 (or4 a b c d)) ∧ w' = w := by
 have hc : ∀ k : Nat, k < 4 → w.cell? ⟨g, k, none⟩ = some (.int .i64 ([a, b, c, d].getD k 0)) := by
  intro k hk
  match k, hk with
  | 0, _ => exact c0
  | 1, _ => exact c1
  | 2, _ => exact c2
  | 3, _ => exact c3
 have hor : ∀ k : Nat, k < 4 → (∀ j, j < k → [a, b, c, d].getD j 0 = 0) → [a, b, c, d].getD k 0 ≠ 0 → [a, b, c, d].getD k 0 = or4 a b c d := by
  intro k hk h0 h1
  unfold or4
  match k, hk with
  | 0, _ => simp at h1; simp [h1]
  | 1, _ => have := h0 0 (by omega); simp at h1 this; simp [h1, this]
  | 2, _ => have := h0 0 (by omega); have := h0 1 (by omega); simp at *; simp_all
  | 3, _ => have := h0 0 (by omega); have := h0 1 (by omega); have := h0 2 (by omega); simp at *; simp_all
 have hend : (∀ j, j < 4 → [a, b, c, d].getD j 0 = 0) → or4 a b c d = 0 := by
  intro h
  have h0 := h 0 (by omega)
  have h1 := h 1 (by omega)
  have h2 := h 2 (by omega)
  have h3 := h 3 (by omega)
  simp at h0 h1 h2 h3
  simp [or4, h0, h1, h2, h3]
 generalize or4 a b c d = o at *
 generalize [a, b, c, d] = xs at *
 have HO := hid hor
 have HE := hid hend
 clear c0 c1 c2 c3 hor hend
 go_enter Try.func115, Try.ntmps115
 go_wp2
 go_loopw [8] (fun i wr => ∃ k : Nat, k ≤ 4 ∧ i = .int .i64 k ∧ Hid (∀ j, j < k → xs.getD j 0 = 0) ∧ wr = w) (fun i _ => 4 - (intOf i).toNat)
 case atStart => exact ⟨0, by omega, rfl, hid (fun j hj => by omega), rfl⟩
 case round =>
  obtain ⟨k, hk, rfl, HZ, rfl⟩ := hrel
  by_cases hlt : k < 4
  · have c1 := hc k hlt
    have hlt' : (k : Int) < 4 := by omega
    have hk0 : (0 : Int) ≤ (k : Int) := by omega
    have HO1 := hid (HO.out k hlt HZ.out)
    obtain ⟨y, hy⟩ : ∃ y, xs.getD k 0 = y := ⟨_, rfl⟩
    rw [hy] at c1 HO1
    have HY := hid hy
    clear hy hc
    by_cases h0 : y = 0
    · subst h0
      go_wp2
      go_roundw
      case rel => exact ⟨k + 1, by omega, by go_num, hid (upto (p := fun j => xs.getD j 0 = 0) HZ.out HY.out), by first | trivial | rfl⟩
      case measure => simp [intOf]; omega
    · have q : (y != 0) = true := by simp [h0]
      have HQ := hid (HO1.out h0)
      go_wp2
      go_ret
      exact ⟨by rw [HQ.out]; rfl, rfl⟩
  · have hk4 : k = 4 := by omega
    subst hk4
    have HQ := hid (HE.out HZ.out)
    go_wp2
    go_ret
    exact ⟨by rw [HQ.out]; rfl, rfl⟩
end Go.Proofs.Ytphmlndkjgldkaa
