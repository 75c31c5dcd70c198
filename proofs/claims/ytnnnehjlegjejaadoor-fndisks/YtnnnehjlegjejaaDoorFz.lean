/- FnFuses: the contracts of the laws' big and at, and what a round of calls does to a disk with a fuse. Conditions: at most 2^21 bytes. -/
import Derived.Test.YtnnnehjlegjejaaDoorFc
import Derived.Test.YtnnnehjlegjejaaDoorDw
import Derived.Test.YtnnnehjlegjejaaDoorDn2
namespace Go.Proofs.YtnnnehjlegjejaaDoor
open Go.RowKit

set_option maxRecDepth 100000 in
set_option maxHeartbeats 1600000 in
theorem at_any {w : World} {ad : Option Addr} {n : Nat} (cap : Nat) {zs : List Int} (h : Reads w ad n zs) (hn : n ≤ 2097152) (i : Int) (hi0 : 0 ≤ i) (hi : i ≤ 1000) :
    Calls Tryd.prog 17 #[.slice ad n cap, .int .i64 i] w fun e w' => ∃ x : Int, e = .returned (.int .i64 x) ∧ 0 ≤ x ∧ x ≤ 255 ∧ w' = w := by
  obtain ⟨i, rfl⟩ := Int.eq_ofNat_of_zero_le hi0
  by_cases hlt : i < n
  · rcases h.cells with h0 | ⟨b, off, rfl, hc⟩
    · omega
    have hcell := hc i hlt
    have hb := h.bd i
    generalize zs.getD i 0 = c at hcell hb
    clear hc
    go_enter Tryd.func17, Tryd.ntmps17
    go_wp2
    go_ret
    exact ⟨_, rfl, hb.1, hb.2, rfl⟩
  · go_enter Tryd.func17, Tryd.ntmps17
    go_wp2
    go_ret
    exact ⟨_, rfl, by omega, by omega, rfl⟩

set_option maxRecDepth 100000 in
theorem law_big (ad : Option Addr) (n cap : Nat) (w : World) :
    Calls Tryd.prog 7 #[.slice ad n cap] w fun e w' => e = .returned (.bool (decide ((1048576 : Int) < (n : Int)))) ∧ w' = w := by
  go_enter Tryd.func7, Tryd.ntmps7
  go_wp2
  go_ret
  exact ⟨rfl, rfl⟩

/-- A disk of four sectors whose fuse was n, behind i calls. -/
structure Burnt (n i : Nat) (d : Dk) : Prop where
  ok : okD d = true
  four : d.S.length = 4
  few : d.W.length ≤ i
  lit : i ≤ n → d.F = (n : Int) - i ∧ d.D = false
  out : n < i → d.F = 0 ∧ d.D = true

theorem Burnt.call {n i : Nat} {d : Dk} (h : Burnt n i d) : (callD d).2 = decide (i < n) ∧ (i < n → (callD d).1.F = (n : Int) - (i + 1 : Nat) ∧ (callD d).1.D = false) ∧ (n ≤ i → (callD d).1.F = 0 ∧ (callD d).1.D = true) := by
  obtain ⟨S, W, F, D⟩ := d
  by_cases h1 : i < n
  · obtain ⟨e1, e2⟩ := h.lit (Nat.le_of_lt h1)
    simp only at e1 e2
    subst e2
    have hc : callD ⟨S, W, F, false⟩ = (⟨S, W, F - 1, false⟩, true) := by
      unfold callD
      rw [if_neg (by simp), if_neg (by simp only; omega), if_pos (by simp only; omega)]
    rw [hc]
    exact ⟨by simp [h1], fun _ => ⟨by simp only; omega, rfl⟩, fun hh => by omega⟩
  · have hD : D = true ∧ F = 0 ∨ D = false ∧ F = 0 := by
      by_cases h2 : n < i
      · obtain ⟨e1, e2⟩ := h.out h2; exact .inl ⟨e2, e1⟩
      · obtain ⟨e1, e2⟩ := h.lit (by omega); simp only at e1 e2; exact .inr ⟨e2, by omega⟩
    have hc : callD ⟨S, W, F, D⟩ = (⟨S, W, 0, true⟩, false) := by
      rcases hD with ⟨rfl, rfl⟩ | ⟨rfl, rfl⟩ <;> rfl
    rw [hc]
    exact ⟨by simp [h1], fun hh => absurd hh h1, fun _ => ⟨rfl, rfl⟩⟩

theorem doneS_64 : ∀ (ws : List (Int × List Int)) (ss : List (List Int)) (ks : List Bool) (all : Bool), (∀ i, i < ss.length → (ss.getD i []).length = 64) → (∀ i, i < ws.length → (ws.getD i w0).2.length = 64) → (doneS ss ws ks all).length = ss.length ∧ ∀ i, i < ss.length → ((doneS ss ws ks all).getD i []).length = 64
  | [], ss, ks, all, h, _ => ⟨rfl, h⟩
  | p :: ws, ss, ks, all, h, hw => by
    rw [doneS]
    have hp : p.2.length = 64 := by have := hw 0 (by simp); simpa using this
    have hw' : ∀ i, i < ws.length → (ws.getD i w0).2.length = 64 := fun i hi => by have := hw (i + 1) (by simpa using hi); simpa using this
    split
    · have ih := doneS_64 ws (ss.set p.1.toNat p.2) ks.tail all (fun i hi => by
        rw [List.length_set] at hi
        by_cases hq : p.1.toNat < ss.length
        · rw [getD_set' ss _ i p.2 [] hq]
          split
          · exact hp
          · exact h i hi
        · rw [List.set_eq_of_length_le (by omega)]; exact h i hi) hw'
      rw [List.length_set] at ih
      exact ih
    · exact doneS_64 ws ss ks.tail all h hw'

theorem Burnt.sync {n i : Nat} {d : Dk} (h : Burnt n i d) : Burnt n (i + 1) (syncD d).1 ∧ (syncD d).2 = if i < n then 0 else 3 := by
  have o := okD_of h.ok
  obtain ⟨k1, k2, k3⟩ := h.call
  rw [syncD_I h.ok]
  unfold syncI
  by_cases h1 : i < n
  · obtain ⟨e1, e2⟩ := k2 h1
    rw [if_pos (by rw [k1]; simp [h1]), if_pos h1]
    obtain ⟨l1, l2⟩ := doneS_64 d.W d.S [] true o.s (fun j hj => (o.w j hj).2.2)
    refine ⟨⟨okD_mk ⟨by simp only; rw [l1]; exact o.s0, by simp only; rw [l1]; exact o.s1, by simp, by simp only; omega, fun j hj => l2 j (by simp only at hj; omega), fun j hj => by simp at hj⟩, by simp only; rw [l1]; exact h.four, by simp, fun _ => ⟨e1, e2⟩, fun hh => by omega⟩, rfl⟩
  · obtain ⟨e1, e2⟩ := k3 (by omega)
    rw [if_neg (by rw [k1]; simp [h1]), if_neg h1]
    exact ⟨⟨okD_mk ⟨o.s0, o.s1, o.w1, by simp only; omega, o.s, o.w⟩, h.four, Nat.le_succ_of_le h.few, fun hh => by omega, fun _ => ⟨e1, e2⟩⟩, rfl⟩

theorem Burnt.write {n i : Nat} {d : Dk} (h : Burnt n i d) (hi : i ≤ 100) {at' : Int} (a0 : 0 ≤ at') (a4 : at' < 4) {z : List Int} (hz : z.length = 64) : Burnt n (i + 1) (writeD d at' z).1 ∧ (writeD d at' z).2 = if i < n then 0 else 3 := by
  have o := okD_of h.ok
  obtain ⟨k1, k2, k3⟩ := h.call
  have hf := h.four
  have hw := h.few
  rw [writeD_I h.ok a0 (by omega) hz]
  unfold writeI
  rw [if_neg (by omega)]
  by_cases h1 : i < n
  · obtain ⟨e1, e2⟩ := k2 h1
    rw [if_pos (by rw [k1]; simp [h1]), if_pos h1]
    refine ⟨⟨okD_mk ⟨o.s0, o.s1, by simp; omega, by simp only; omega, o.s, fun j hj => ?_⟩, h.four, by simp; omega, fun _ => ⟨e1, e2⟩, fun hh => by omega⟩, rfl⟩
    simp only [List.length_append, List.length_cons, List.length_nil] at hj ⊢
    rw [getD_app]
    split
    · rename_i hj'
      exact o.w j hj'
    · rw [show j - d.W.length = 0 by omega]
      exact ⟨a0, by simp only [List.getD_cons_zero]; omega, hz⟩
  · obtain ⟨e1, e2⟩ := k3 (by omega)
    rw [if_neg (by rw [k1]; simp [h1]), if_neg h1]
    exact ⟨⟨okD_mk ⟨o.s0, o.s1, o.w1, by simp only; omega, o.s, o.w⟩, h.four, Nat.le_succ_of_le h.few, fun hh => by omega, fun _ => ⟨e1, e2⟩⟩, rfl⟩
end Go.Proofs.YtnnnehjlegjejaaDoor
