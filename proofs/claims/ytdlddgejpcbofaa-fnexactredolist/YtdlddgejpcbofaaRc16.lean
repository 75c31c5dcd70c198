/- RedoList's program: who is wrong among records, the number after, the list that is settled and marked; its contract. Conditions: at most 2^21 statuses, records and bytes of one. -/
import Derived.Test.YtdlddgejpcbofaaRb16
namespace Go.Proofs.Ytdlddgejpcbofaa
open Go.RowKit
set_option maxRecDepth 100000

/-- The number after, record by record. -/
def aftF : List Rc → Int → Int
  | [], y => y
  | r :: rs, y => aftF rs (if y ≤ r.X then r.X + 1 else y)
/-- The list with each committed one done, record by record. -/
def mkF : List Rc → List Int → List Int
  | [], b => b
  | r :: rs, b => mkF rs (if r.K = 5 then b.set r.X.toNat 1 else b)
/-- The statuses as the model sets them, record by record. -/
def stF : List Rc → List Int → List Int
  | [], l => l
  | r :: rs, l => stF rs (if r.K = 5 then setS l r.X 1 else l)
theorem rdF_all : ∀ (rs : List Rc) (l : List Int) (y : Int), (∀ k, k < rs.length → okR (rs.getD k r0) = true) → rdF rs l y = some (stF rs l, aftF rs y)
  | [], _, _, _ => rfl
  | r :: rs, l, y, h => by
    have h0 : okR r = true := by simpa using h 0 (by simp)
    rw [rdF, if_pos h0, stF, aftF]
    exact rdF_all rs _ _ fun k hk => by simpa using h (k + 1) (by simpa using hk)
theorem rdF_any : ∀ (rs : List Rc) (l : List Int) (y : Int) (k : Nat), k < rs.length → okR (rs.getD k r0) = false → rdF rs l y = none
  | [], _, _, k, h, _ => by simp at h
  | r :: rs, l, y, 0, _, h => by
    have h0 : okR r = false := by simpa using h
    rw [rdF, if_neg (by rw [h0]; simp)]
  | r :: rs, l, y, k + 1, hk, h => by
    rw [rdF]
    split
    · exact rdF_any rs _ _ k (by simpa using hk) (by simpa using h)
    · rfl
theorem aftF_step {rs : List Rc} {k : Nat} (hk : k < rs.length) (y : Int) : aftF (rs.drop k) y = aftF (rs.drop (k + 1)) (if y ≤ (rs.getD k r0).X then (rs.getD k r0).X + 1 else y) := by
  rw [List.drop_eq_getElem_cons hk, aftF]
  have e : rs.getD k r0 = rs[k] := by simp [List.getD, hk]
  rw [e]
theorem mkF_step {rs : List Rc} {k : Nat} (hk : k < rs.length) (b : List Int) : mkF (rs.drop k) b = mkF (rs.drop (k + 1)) (if (rs.getD k r0).K = 5 then b.set (rs.getD k r0).X.toNat 1 else b) := by
  rw [List.drop_eq_getElem_cons hk, mkF]
  have e : rs.getD k r0 = rs[k] := by simp [List.getD, hk]
  rw [e]
theorem okR_bd {r : Rc} (h : okR r = true) : 0 ≤ r.X ∧ r.X ≤ 400 ∧ (r.K = 5 → 1 ≤ r.X) := by
  have := of_decide_eq_true (show decide _ = true from h)
  omega
theorem aftF_ge : ∀ (rs : List Rc) (y : Int), y ≤ aftF rs y ∧ ∀ k, k < rs.length → (rs.getD k r0).X < aftF rs y
  | [], y => ⟨Int.le_refl _, fun k h => by simp at h⟩
  | r :: rs, y => by
    have h := aftF_ge rs (if y ≤ r.X then r.X + 1 else y)
    rw [aftF]
    have h0 : y ≤ (if y ≤ r.X then r.X + 1 else y) ∧ r.X < (if y ≤ r.X then r.X + 1 else y) := by split <;> omega
    refine ⟨by omega, fun k hk => ?_⟩
    match k with
    | 0 => show r.X < _; omega
    | k + 1 => simpa using h.2 k (by simpa using hk)
theorem aftF_le : ∀ (rs : List Rc) (y : Int), (∀ k, k < rs.length → okR (rs.getD k r0) = true) → y ≤ 401 → aftF rs y ≤ 401
  | [], y, _, h => h
  | r :: rs, y, hr, h => by
    rw [aftF]
    refine aftF_le rs _ (fun k hk => by simpa using hr (k + 1) (by simpa using hk)) ?_
    have := okR_bd (r := r) (by simpa using hr 0 (by simp))
    split <;> omega
theorem stOf_setS {l : List Int} (hl : l.length ≤ 401) {X : Nat} (h1 : 1 ≤ X) (h2 : X ≤ 400) (i : Nat) (hi : i ≤ 400) : setlAt (setS l X 1) i = if i = X then 1 else setlAt l i := by
  have hok : setOk l X 1 = true := decide_eq_true ⟨hl, by omega, by omega⟩
  rw [setS_yes hok, Int.toNat_natCast]
  unfold setlAt
  by_cases h0 : i = 0
  · subst h0
    rw [if_pos rfl, if_neg (by omega), if_pos rfl]
  rw [if_neg h0, if_neg h0]
  have hg : ((grow l (X + 1)).set X 1).getD i 0 = if i = X then 1 else l.getD i 0 := by
    by_cases hx : i = X
    · subst hx
      have : i < (grow l (i + 1)).length := by rw [grow_length]; omega
      simp [List.getD, this]
    · rw [if_neg hx]
      simp only [List.getD, List.getElem?_set_ne (fun e => hx e.symm)]
      unfold grow
      by_cases hlt : i < l.length
      · rw [List.getElem?_append_left hlt]
      · rw [List.getElem?_append_right (by omega), List.getElem?_eq_none (l := l) (by omega)]
        by_cases h3 : i - l.length < X + 1 - l.length
        · simp [h3]
        · simp [h3]
  have hlen : ((grow l (X + 1)).set X 1).length = max l.length (X + 1) := by rw [List.length_set, grow_length]
  have hn : l.length ≤ i → l.getD i 0 = 0 := fun h => by simp [List.getD, h]
  unfold stOf
  rw [Int.toNat_natCast, hg, hlen]
  by_cases hx : i = X
  · rw [if_pos hx, if_pos hx, if_pos (by omega)]; rfl
  · rw [if_neg hx, if_neg hx]
    by_cases hlt : i < l.length
    · have e : (1 ≤ (i : Int) ∧ (i : Int) ≤ 400 ∧ (i : Int) < ((max l.length (X + 1) : Nat) : Int) ∧ 0 ≤ l.getD i 0 ∧ l.getD i 0 ≤ 2) ↔ (1 ≤ (i : Int) ∧ (i : Int) ≤ 400 ∧ (i : Int) < (l.length : Int) ∧ 0 ≤ l.getD i 0 ∧ l.getD i 0 ≤ 2) := by
        constructor <;> (intro h; omega)
      simp only [e]
    · rw [hn (by omega)]
      simp
theorem settle_setS {l : List Int} (hl : l.length ≤ 401) {X : Nat} (h1 : 1 ≤ X) (h2 : X ≤ 400) (y : Int) (hy : y ≤ 401) : settleS (setS l X 1) y = (settleS l y).set X 1 := by
  unfold settleS
  by_cases h : 0 ≤ y ∧ y ≤ 401
  · rw [if_pos h, if_pos h]
    apply List.ext_getElem
    · simp
    · intro i h3 h4
      have hi : i < y.toNat := by simpa using h3
      simp only [List.getElem_map, List.getElem_range, List.getElem_set]
      rw [stOf_setS hl h1 h2 i (by omega)]
      by_cases hx : i = X
      · subst hx; simp
      · rw [if_neg hx, if_neg (fun e => hx e.symm)]
  · rw [if_neg h, if_neg h]; rfl
theorem settle_stF : ∀ (rs : List Rc) (l : List Int) (y : Int), (∀ k, k < rs.length → okR (rs.getD k r0) = true) → l.length ≤ 401 → y ≤ 401 → settleS (stF rs l) y = mkF rs (settleS l y)
  | [], _, _, _, _, _ => rfl
  | r :: rs, l, y, hr, hl, hy => by
    have hb := okR_bd (r := r) (by simpa using hr 0 (by simp))
    have hs := fun k hk => show okR (rs.getD k r0) = true by simpa using hr (k + 1) (by simpa using hk)
    rw [stF, mkF]
    by_cases h5 : r.K = 5
    · rw [if_pos h5, if_pos h5, settle_stF rs _ y hs (setS_len hl _ _) hy]
      obtain ⟨X, hX⟩ : ∃ X : Nat, r.X = X := ⟨r.X.toNat, by omega⟩
      rw [hX, settle_setS hl (by have := hb.2.2 h5; omega) (by omega) y hy, Int.toNat_natCast]
    · rw [if_neg h5, if_neg h5, settle_stF rs l y hs hl hy]
theorem redo_mk {l : List Int} {rs : List Rc} {nx : Int} (hl : l.length ≤ 401 ∧ 1 ≤ nx ∧ nx ≤ 401) (h : ∀ k, k < rs.length → okR (rs.getD k r0) = true) : redoL l rs nx = (mkF rs (settleS l (aftF rs nx)), aftF rs nx) := by
  rw [redo_some hl (rdF_all rs l nx h)]
  simp only
  rw [settle_stF rs l _ h hl.1 (aftF_le rs nx h hl.2.2)]
theorem mkF_length : ∀ (rs : List Rc) (b : List Int), (mkF rs b).length = b.length
  | [], _ => rfl
  | r :: rs, b => by
    rw [mkF, mkF_length rs]
    split
    · simp
    · rfl
end Go.Proofs.Ytdlddgejpcbofaa
