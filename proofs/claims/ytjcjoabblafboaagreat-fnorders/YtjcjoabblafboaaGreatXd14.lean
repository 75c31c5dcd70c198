/- The contract of the specification's GraphRing. Conditions: texts of at most 2^21 bytes. -/
import Derived.Test.YtjcjoabblafboaaGreatMgm
import Derived.Test.YtjcjoabblafboaaGreatMgl
namespace Go.Proofs.YtjcjoabblafboaaGreat
open Go.RowKit
set_option maxRecDepth 100000
theorem rgF_bd (nx : Nat → Nat) (L : List Nat) (h : ∀ x ∈ L, nx x ∈ L) : ∀ (f : Nat) (W : List Nat) (p : Nat), (∀ x ∈ W, x ∈ L) → p ∈ L → W.Nodup → (∀ x ∈ rgF nx f W p, x ∈ L) ∧ (rgF nx f W p).Nodup
 | 0, W, p, _, _, _ => ⟨fun x hx => (by cases hx), List.nodup_nil⟩
 | f + 1, W, p, hW, hp, hd => by
  unfold rgF
  split
  · exact ⟨fun x hx => hW x (List.mem_of_mem_drop hx), hd.sublist (List.drop_sublist _ _)⟩
  · rename_i hn
    refine rgF_bd nx L h f (W ++ [p]) (nx p) (fun x hx => ?_) (h p hp) ?_
    · rcases List.mem_append.1 hx with q | q
      · exact hW x q
      · have : x = p := by simpa using q
        rw [this]; exact hp
    · rw [List.nodup_append]
      refine ⟨hd, by simp, fun y hy z hz => ?_⟩
      have : z = p := by simpa using hz
      subst this
      exact fun e => hn (e ▸ hy)
theorem nx_left (ts : List Tk) : ∀ x ∈ leftL ts, nxE ts (lfS ts) x ∈ leftL ts ∧ (ahV (prE ts ts.length ts.length) (lfS ts) x).1 = ((nxE ts (lfS ts) x : Nat) : Int) := by
 intro x hx
 obtain ⟨R, _, h2, h3⟩ := inv_end ts
 have hf := h3 x hx
 have hl : ∃ r, leastP R ts.length ((x : Nat) : Int) r := by
  unfold firstB at hf
  have hf' := of_decide_eq_false hf
  by_cases h : ∃ k, k < ts.length ∧ ((x : Nat) : Int) ∈ R k
  · obtain ⟨k, hk⟩ := h
    have : ∀ n, (n < ts.length ∧ ((x : Nat) : Int) ∈ R n) → ∃ m, m < ts.length ∧ ((x : Nat) : Int) ∈ R m ∧ ∀ j, j < m → ((x : Nat) : Int) ∉ R j := by
     intro n
     induction n using Nat.strongRecOn with
     | _ n ih =>
      intro hn
      by_cases hx : ∃ j, j < n ∧ ((x : Nat) : Int) ∈ R j
      · obtain ⟨j, h1, h2⟩ := hx
        exact ih j h1 ⟨by omega, h2⟩
      · exact ⟨n, hn.1, hn.2, fun j hj z => hx ⟨j, hj, z⟩⟩
    obtain ⟨m, h1, h2, h3⟩ := this k hk
    exact ⟨(m : Int), .inr ⟨m, rfl, h1, h2, h3⟩⟩
  · exact absurd (fun j hj z => h ⟨j, hj, z⟩) hf'
 obtain ⟨r, hr⟩ := hl
 exact (nx_least h2 hf hr).2
theorem left_lt (ts : List Tk) : ∀ x ∈ leftL ts, x < ts.length := by
 obtain ⟨R, _, h2, _⟩ := inv_end ts
 exact fun x hx => ((h2.mem x).1 hx).1
theorem ringL_bd (ts : List Tk) : (ringL ts).length ≤ 100 ∧ ∀ x ∈ ringL ts, x < 1048576 := by
 unfold ringL
 split
 · rename_i hdb
   have hok := (deedsB_ok hdb).1
   cases hl : leftL ts with
   | nil => exact ⟨by simp, fun x hx => by cases hx⟩
   | cons p L =>
    have h := rgF_bd (nxE ts (lfS ts)) (leftL ts) (fun x hx => (nx_left ts x hx).1) (ts.length + 1) [] p (fun x hx => by cases hx) (by rw [hl]; exact List.mem_cons.2 (.inl rfl)) List.nodup_nil
    have h2 : ∀ x ∈ rgF (nxE ts (lfS ts)) (ts.length + 1) [] p, x < ts.length := fun x hx => left_lt ts x (h.1 x hx)
    have h3 := nodup_le ts.length _ h.2 h2
    exact ⟨by simp only; omega, fun x hx => by have := h2 x hx; omega⟩
 · exact ⟨by simp, fun x hx => by cases hx⟩
end Go.Proofs.YtjcjoabblafboaaGreat
