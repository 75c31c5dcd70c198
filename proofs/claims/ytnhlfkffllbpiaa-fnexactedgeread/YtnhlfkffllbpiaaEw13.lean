/- Rows of tracks that are gone through by the specification's EdgeRead and EdgeWrite, with the places of their memory. No statement of its own; no conditions. -/
import Derived.Test.YtnhlfkffllbpiaaMgb
namespace Go.Proofs.Ytnhlfkffllbpiaa
open Go.RowKit
set_option maxRecDepth 100000

def pm0 : Tk × Mt := (tk0, mt0)
def qJ (r : Bool) (M : Nat → Bool) (ps : List (Tk × Mt)) : Nat → List (Tk × Mt)
  | 0 => ps
  | i + 1 => if M i = true then (qJ r M ps i).set i (oth r (ps.getD i pm0).1, (ps.getD i pm0).2) else qJ r M ps i
theorem qJ_yes (r : Bool) (M : Nat → Bool) (ps : List (Tk × Mt)) {i : Nat} (h : M i = true) : qJ r M ps (i + 1) = (qJ r M ps i).set i (oth r (ps.getD i pm0).1, (ps.getD i pm0).2) := by
  conv => lhs; unfold qJ
  rw [if_pos h]
theorem qJ_no (r : Bool) (M : Nat → Bool) (ps : List (Tk × Mt)) {i : Nat} (h : M i = false) : qJ r M ps (i + 1) = qJ r M ps i := by
  conv => lhs; unfold qJ
  rw [if_neg (by rw [h]; simp)]
theorem qJ_len (r : Bool) (M : Nat → Bool) (ps : List (Tk × Mt)) : ∀ i, (qJ r M ps i).length = ps.length
  | 0 => rfl
  | i + 1 => by
    unfold qJ
    split
    · rw [List.length_set]; exact qJ_len r M ps i
    · exact qJ_len r M ps i
theorem qJ_at (r : Bool) (M : Nat → Bool) (ps : List (Tk × Mt)) : ∀ i, i ≤ ps.length → ∀ j, i ≤ j → (qJ r M ps i).getD j pm0 = ps.getD j pm0
  | 0, _, _, _ => rfl
  | i + 1, hi, j, hj => by
    unfold qJ
    split
    · rw [getD_set _ _ _ _ _ (by rw [qJ_len]; omega), if_neg (by omega)]
      exact qJ_at r M ps i (by omega) j (by omega)
    · exact qJ_at r M ps i (by omega) j (by omega)
theorem qJ_same (r : Bool) (M : Nat → Bool) (ps : List (Tk × Mt)) : ∀ i, i ≤ ps.length → ∀ j, ((qJ r M ps i).getD j pm0).2 = (ps.getD j pm0).2 ∧ ((qJ r M ps i).getD j pm0).1.rs = (ps.getD j pm0).1.rs ∧ ((qJ r M ps i).getD j pm0).1.ws = (ps.getD j pm0).1.ws
  | 0, _, _ => ⟨rfl, rfl, rfl⟩
  | i + 1, hi, j => by
    unfold qJ
    split
    · rw [getD_set _ _ _ _ _ (by rw [qJ_len]; omega)]
      by_cases h : i = j
      · subst h
        rw [if_pos rfl]
        exact ⟨rfl, (oth_rs _ _).1, (oth_rs _ _).2.1⟩
      · rw [if_neg h]; exact qJ_same r M ps i (by omega) j
    · exact qJ_same r M ps i (by omega) j
theorem map_getD (ps : List (Tk × Mt)) (i : Nat) : (ps.map (·.1)).getD i tk0 = (ps.getD i pm0).1 := by
  by_cases h : i < ps.length
  · simp [List.getD, h]
  · simp [List.getD, List.getElem?_eq_none (Nat.le_of_not_lt h), pm0]
theorem qJ_map (r : Bool) (M : Nat → Bool) (ps : List (Tk × Mt)) : ∀ i, (qJ r M ps i).map (·.1) = mkJ r M (ps.map (·.1)) i
  | 0 => rfl
  | i + 1 => by
    unfold qJ mkJ
    split
    · rw [List.map_set, qJ_map r M ps i, map_getD]
    · exact qJ_map r M ps i
theorem BandsP.same {w : World} {lo hi : Nat} {ps qs : List (Tk × Mt)} (h : BandsP w lo hi ps) (hl : qs.length = ps.length) (hs : ∀ j, (qs.getD j pm0).2 = (ps.getD j pm0).2 ∧ (qs.getD j pm0).1.rs = (ps.getD j pm0).1.rs ∧ (qs.getD j pm0).1.ws = (ps.getD j pm0).1.ws) : BandsP w lo hi qs := by
  have e1 : ∀ j (hj : j < ps.length), ps.getD j pm0 = ps[j] := fun j hj => by simp [List.getD, hj]
  have e2 : ∀ j (hj : j < qs.length), qs.getD j pm0 = qs[j] := fun j hj => by simp [List.getD, hj]
  refine ⟨fun p hp => ?_, ?_⟩
  · obtain ⟨j, hj, rfl⟩ := List.getElem_of_mem hp
    have := hs j
    rw [e2 j hj, e1 j (by omega)] at this
    have o := h.own _ (List.getElem_mem (show j < ps.length by omega))
    exact ⟨by rw [this.1, this.2.1]; exact o.rd, by rw [this.1, this.2.2]; exact o.wr, by rw [this.1]; exact o.apart⟩
  · rw [List.pairwise_iff_getElem]
    intro i j hi' hj hij b hb
    have h1 := (hs i).1
    have h2 := (hs j).1
    rw [e2 i hi', e1 i (by omega)] at h1
    rw [e2 j hj, e1 j (by omega)] at h2
    rw [h1] at hb
    rw [h2]
    exact (List.pairwise_iff_getElem.1 h.apart) i j (by omega) (by omega) hij b hb
theorem qJ_last {w : World} {lo hi : Nat} {ps : List (Tk × Mt)} {k : Nat} {t0 : Tk} {m0 : Mt} (r : Bool) (M : Nat → Bool) (hk : k < ps.length) (i : Nat) (hi' : i ≤ ps.length) (h : BandsP w lo hi (ps.set k (t0, m0))) : BandsP w lo hi ((qJ r M ps i).set k (tJ r M t0 i, m0)) := by
  refine h.same (by rw [List.length_set, List.length_set, qJ_len]) (fun j => ?_)
  rw [getD_set _ _ _ _ _ (by rw [qJ_len]; exact hk), getD_set _ _ _ _ _ hk]
  by_cases c : k = j
  · rw [if_pos c, if_pos c]
    exact ⟨rfl, (tJ_rs r M t0 i).1, (tJ_rs r M t0 i).2.1⟩
  · rw [if_neg c, if_neg c]
    exact qJ_same r M ps i hi' j
/-- A track laid into a row. -/
theorem owns_row8 {w : World} {lo g n c : Nat} {qs : List (Tk × Mt)} (o : w.ownsRow lo 46 8 (.slice (some ⟨g, 0, none⟩) n c) n (cP qs)) (hl : qs.length = n) {i : Nat} (hi : i < n) (p : Tk × Mt) : (w.setCells g (i * 8) (cellsT1 p.1 p.2)).ownsRow lo 46 8 (.slice (some ⟨g, 0, none⟩) n c) n (cP (qs.set i p)) := by
  obtain ⟨rest, hG, hx, hr, hnc, hcm, hlo⟩ := owns_block o
  have hiq : i < qs.length := by omega
  have e1 : cP qs = cP (qs.take i) ++ (cellsT1 qs[i].1 qs[i].2 ++ cP (qs.drop (i + 1))) := by
    conv => lhs; rw [← List.take_append_drop i qs, List.drop_eq_getElem_cons hiq, cP_app, cP_cons]
  have l1 : (cP (qs.take i)).length = i * 8 := by rw [cP_len, List.length_take]; omega
  have e2 : cP (qs.set i p) = cP (qs.take i) ++ (cellsT1 p.1 p.2 ++ cP (qs.drop (i + 1))) := by rw [List.set_eq_take_append_cons_drop, if_pos hiq, cP_app, cP_cons]
  have h1 := heapL_setCells g 46 (cellsT1 p.1 p.2) (i * 8) w _ (by rw [List.length_append, hx]; simp [cellsT1]; omega) hG
  have e3 : (cP qs ++ rest).take (i * 8) ++ cellsT1 p.1 p.2 ++ (cP qs ++ rest).drop (i * 8 + (cellsT1 p.1 p.2).length) = cP (qs.set i p) ++ rest := by
    have t1 : (cP qs ++ rest).take (i * 8) = cP (qs.take i) := by rw [e1, List.append_assoc, ← l1, List.take_left]
    have t2 : (cP qs ++ rest).drop (i * 8 + (cellsT1 p.1 p.2).length) = cP (qs.drop (i + 1)) ++ rest := by
      rw [show (cellsT1 p.1 p.2).length = (cellsT1 qs[i].1 qs[i].2).length by simp [cellsT1], e1, List.append_assoc, ← l1, ← List.drop_drop, List.drop_left, List.append_assoc, List.drop_left]
    rw [t1, t2, e2, List.append_assoc, List.append_assoc, List.append_assoc]
  rw [e3] at h1
  exact block_owns h1 (by rw [cP_len, List.length_set]; omega) (by rw [List.length_append, cP_len, List.length_set, ← cP_len, ← List.length_append]; exact hr) hnc hcm hlo
theorem row_box {w : World} {lo g n c : Nat} {qs : List (Tk × Mt)} (o : w.ownsRow lo 46 8 (.slice (some ⟨g, 0, none⟩) n c) n (cP qs)) (hl : qs.length = n) {i : Nat} (hi : i < n) : Box8 w g (i * 8) (qs.getD i pm0).1 (qs.getD i pm0).2.y (qs.getD i pm0).2.z := by
  obtain ⟨rest, hG, hx, hr, hnc, hcm, hlo⟩ := owns_block o
  have hiq : i < qs.length := by omega
  have e1 : cP qs = cP (qs.take i) ++ (cellsT1 qs[i].1 qs[i].2 ++ cP (qs.drop (i + 1))) := by
    conv => lhs; rw [← List.take_append_drop i qs, List.drop_eq_getElem_cons hiq, cP_app, cP_cons]
  have l1 : (cP (qs.take i)).length = i * 8 := by rw [cP_len, List.length_take]; omega
  rw [show qs.getD i pm0 = qs[i] by simp [List.getD, hiq]]
  exact mid_box (ty := 46) (L := cP (qs.take i)) (R := cP (qs.drop (i + 1)) ++ rest) (by rw [hG, e1]; simp only [List.append_assoc]) l1
theorem row_there {w : World} {lo g n c : Nat} {qs : List (Tk × Mt)} (o : w.ownsRow lo 46 8 (.slice (some ⟨g, 0, none⟩) n c) n (cP qs)) {i : Nat} (hi : i < n) : w.there g (i * 8) 8 := by
  obtain ⟨rest, hG, hx, hr, hnc, hcm, hlo⟩ := owns_block o
  exact block_there hG (by rw [List.length_append, hx]; omega)
end Go.Proofs.Ytnhlfkffllbpiaa
