/- Rows picked out of rows. No statement of its own; no conditions. -/
import Derived.Test.YtebhipicfgnajaaGreatHq10
namespace Go.Proofs.YtebhipicfgnajaaGreat
open Go.RowKit
set_option maxRecDepth 100000

/-- The rows at the places below k that p picks. -/
def pickW (p : Rw → Bool) (rs : List Rw) : List Rw := rs.filter p
theorem pick_step (p : Rw → Bool) (rs : List Rw) (k : Nat) (h : k < rs.length) : (rs.take (k + 1)).filter p = (rs.take k).filter p ++ (if p (rs.getD k rw0) = true then [rs.getD k rw0] else []) := by
  rw [take_snocR rs k h, List.filter_append]
  congr 1
  by_cases hp : p (rs.getD k rw0) = true
  · rw [if_pos hp, List.filter_cons_of_pos hp]; rfl
  · rw [if_neg hp, List.filter_cons_of_neg hp]; rfl
/-- Rows whose texts lie in rows xs that are apart: some of those of other rows. -/
structure SubR (xs ys : List Value) : Prop where
  sub : List.Sublist ys xs
theorem Bands.pair {w : World} {lo hi : Nat} {xs : List Value} {rs : List Rw} (hB : Bands w lo hi xs (textsR rs)) (k : Nat) : w.ownsRow lo 5 1 (xs.getD (k * 2) nilS) (rs.getD k rw0).t.Z.length (bys (rs.getD k rw0).t.Z) ∧ w.ownsRow lo 5 1 (xs.getD (k * 2 + 1) nilS) (rs.getD k rw0).t.Y.length (bys (rs.getD k rw0).t.Y) := by
  have h1 := hB.own (k * 2)
  have h2 := hB.own (k * 2 + 1)
  rw [(textsR_at rs k).1] at h1
  rw [(textsR_at rs k).2] at h2
  exact ⟨h1, h2⟩
/-- Bands over a list that is a part of another's rows, and one more pair of it. -/
theorem Bands.more {w : World} {lo hi : Nat} {xs ys : List Value} {rs qs : List Rw} (hB : Bands w lo hi xs (textsR rs)) {k : Nat} (hk : k < rs.length) (hY : Bands w lo hi ys (textsR qs)) (hs : List.Sublist ys (xs.take (k * 2))) :
    Bands w lo hi (ys ++ [xs.getD (k * 2) nilS, xs.getD (k * 2 + 1) nilS]) (textsR (qs ++ [rs.getD k rw0])) ∧ List.Sublist (ys ++ [xs.getD (k * 2) nilS, xs.getD (k * 2 + 1) nilS]) (xs.take ((k + 1) * 2)) := by
  have hxl : xs.length = rs.length * 2 := by rw [hB.len, textsR_len]
  obtain ⟨o1, o2⟩ := hB.pair k
  have e2 : xs.take ((k + 1) * 2) = xs.take (k * 2) ++ [xs.getD (k * 2) nilS, xs.getD (k * 2 + 1) nilS] := by
    rw [show (k + 1) * 2 = k * 2 + 1 + 1 by omega, take_snoc xs (k * 2 + 1) nilS (by omega), take_snoc xs (k * 2) nilS (by omega), List.append_assoc]
    rfl
  have hsub : List.Sublist (ys ++ [xs.getD (k * 2) nilS, xs.getD (k * 2 + 1) nilS]) (xs.take ((k + 1) * 2)) := by rw [e2]; exact List.Sublist.append hs (List.Sublist.refl _)
  have hyl : ys.length = (textsR qs).length := hY.len
  refine ⟨⟨?_, ?_, ?_, List.Pairwise.sublist (hsub.trans (List.take_sublist _ _)) hB.apart, ?_⟩, hsub⟩
  · rw [textsR_app]; simp [textsR, hyl]
  · intro i
    rw [textsR_app, getD_app, getD_app, ← hyl]
    by_cases hc : i < ys.length
    · rw [if_pos hc, if_pos hc]; exact hY.own i
    · rw [if_neg hc, if_neg hc]
      match i - ys.length with
      | 0 => exact o1
      | 1 => exact o2
      | j + 2 => simpa [textsR, bys, nilS] using World.ownsRow_nil w lo 5 1
  · intro x hx g hg
    rcases List.mem_append.1 hx with hx | hx
    · exact hY.top x hx g hg
    · simp only [List.mem_cons, List.not_mem_nil, or_false] at hx
      rcases hx with rfl | rfl
      · exact (hB.inr _ g hg).2
      · exact (hB.inr _ g hg).2
  · intro i j
    rw [textsR_app, getD_app]
    by_cases hc : i < (textsR qs).length
    · rw [if_pos hc]; exact hY.bd i j
    · rw [if_neg hc]
      have b1 := hB.bd (k * 2) j
      have b2 := hB.bd (k * 2 + 1) j
      rw [(textsR_at rs k).1] at b1
      rw [(textsR_at rs k).2] at b2
      match i - (textsR qs).length with
      | 0 => exact b1
      | 1 => exact b2
      | m + 2 => simp [textsR]
end Go.Proofs.YtebhipicfgnajaaGreat
