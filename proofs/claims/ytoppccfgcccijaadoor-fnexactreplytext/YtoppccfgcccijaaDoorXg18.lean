/- Items out of their texts, plain: what the specification's first guess is, where there is an item with this text it has it. No program, no conditions. -/
import Derived.Test.YtoppccfgcccijaaDoorMgb
import Derived.Test.YtoppccfgcccijaaDoorKdr
namespace Go.Proofs.YtoppccfgcccijaaDoor
open Go.RowKit
set_option maxRecDepth 100000

theorem hexB_at : ∀ (zs : List Int) (j : Nat), j < zs.length → (hexB zs).getD (2 * j) 0 = hexD (zs.getD j 0 / 16) ∧ (hexB zs).getD (2 * j + 1) 0 = hexD (zs.getD j 0 % 16)
  | [], j, h => absurd h (by simp)
  | z :: zs, 0, _ => ⟨rfl, rfl⟩
  | z :: zs, j + 1, h => by
    have := hexB_at zs j (by simpa using h)
    rw [hexB_cons, show 2 * (j + 1) = 2 * j + 1 + 1 by omega, List.getD_cons_succ, List.getD_cons_succ, List.getD_cons_succ, show 2 * j + 1 + 1 + 1 = (2 * j + 1) + 1 + 1 by omega, List.getD_cons_succ, List.getD_cons_succ]
    exact this
def byteL (zs : List Int) : Prop := ∀ i, 0 ≤ zs.getD i 0 ∧ zs.getD i 0 ≤ 255
theorem unD_hex {d : Int} (h : 0 ≤ d ∧ d ≤ 15) : dv (hexD d) = d := by unfold dv; rw [unD_hexD h]; rfl
theorem prN_hexB {zs : List Int} (h : byteL zs) : prN (hexB zs) zs.length = zs := by
  refine List.ext_getElem (prN_len _ _) (fun i h1 h2 => ?_)
  have hz := h i
  obtain ⟨a1, a2⟩ := hexB_at zs i h2
  have e : (prN (hexB zs) zs.length)[i] = dv ((hexB zs).getD (2 * i) 0) * 16 + dv ((hexB zs).getD (2 * i + 1) 0) := by simp [prN]
  rw [e, a1, a2, unD_hex (by omega), unD_hex (by omega)]
  have : zs.getD i 0 = zs[i] := by rw [List.getD_eq_getElem?_getD, List.getElem?_eq_getElem h2]; rfl
  rw [← this]
  omega
theorem unH_hexB {zs : List Int} (h : byteL zs) : unH (hexB zs) = (zs, true) := by
  have ha : allX (hexB zs) = true := allX_yes (fun k hk => by
    rw [hexB_len] at hk
    have hz := h (k / 2)
    obtain ⟨a1, a2⟩ := hexB_at zs (k / 2) (by omega)
    by_cases e : k % 2 = 0
    · rw [show k = 2 * (k / 2) by omega, a1, unD_hexD (by omega)]; rfl
    · rw [show k = 2 * (k / 2) + 1 by omega, a2, unD_hexD (by omega)]; rfl)
  unfold unH
  rw [ha, if_pos rfl, hexB_len, show 2 * zs.length / 2 = zs.length by omega, prN_hexB h, decide_eq_true (by omega)]
theorem prN_byte (zs : List Int) (m : Nat) : byteL (prN zs m) := fun i => by
  by_cases hi : i < m
  · have h1 := dv_bd (zs.getD (2 * i) 0)
    have h2 := dv_bd (zs.getD (2 * i + 1) 0)
    rw [show (prN zs m).getD i 0 = dv (zs.getD (2 * i) 0) * 16 + dv (zs.getD (2 * i + 1) 0) by simp [prN, List.getD, hi]]
    omega
  · rw [show (prN zs m).getD i 0 = 0 by simp [prN, List.getD, hi]]; omega
theorem unH_byte (zs : List Int) : byteL (unH zs).1 := by
  unfold unH
  split
  · exact prN_byte _ _
  · intro i; simp
/-- An item as it may stand in memory. -/
structure ItB (K N : Int) (f : Nat) (Z : List Int) : Prop where
  bn : -9223372036854775808 ≤ N ∧ N ≤ 9223372036854775807
  bf : f < 18446744073709551616
  bz : byteL Z
  ok : okI K N f Z.length = true
/-- Where there is an item with this text, the one that is guessed has it. -/
def Cand (zs : List Int) (K N : Int) (f : Nat) (Z : List Int) : Prop := ∀ K' N' f' Z', ItB K' N' f' Z' → txtI K' N' f' Z' = zs → txtI K N f Z = zs
theorem txtI_head {K N : Int} {f : Nat} {Z : List Int} (h : okI K N f Z.length = true) : (K = 1 ∧ txtI K N f Z = 105 :: decI N) ∨ (K = 2 ∧ txtI K N f Z = 102 :: hexB (hi8 (fbits f) 8)) ∨ (K = 3 ∧ txtI K N f Z = 116 :: hexB Z) ∨ (K = 0 ∧ txtI K N f Z = [45]) := by
  have hK := of_decide_eq_true (show decide (0 ≤ K ∧ K ≤ 3 ∧ Z.length ≤ 40 ∧ (K = 1 ∨ N = 0) ∧ (K = 2 ∨ f = 0) ∧ (K = 3 ∨ Z.length = 0)) = true from h)
  unfold txtI
  rw [if_pos h]
  by_cases h1 : K = 1
  · exact .inl ⟨h1, by rw [if_pos h1]⟩
  · by_cases h2 : K = 2
    · exact .inr (.inl ⟨h2, by rw [if_neg h1, if_pos h2]⟩)
    · by_cases h3 : K = 3
      · exact .inr (.inr (.inl ⟨h3, by rw [if_neg h1, if_neg h2, if_pos h3]⟩))
      · exact .inr (.inr (.inr ⟨by omega, by rw [if_neg h1, if_neg h2, if_neg h3]⟩))
theorem txtI_len {K N : Int} {f : Nat} {Z : List Int} (h : ItB K N f Z) : 1 ≤ (txtI K N f Z).length ∧ (txtI K N f Z).length ≤ 81 := by
  have hK := of_decide_eq_true (show decide (0 ≤ K ∧ K ≤ 3 ∧ Z.length ≤ 40 ∧ (K = 1 ∨ N = 0) ∧ (K = 2 ∨ f = 0) ∧ (K = 3 ∨ Z.length = 0)) = true from h.ok)
  rcases txtI_head h.ok with ⟨_, e⟩ | ⟨_, e⟩ | ⟨_, e⟩ | ⟨_, e⟩
  · rw [e, List.length_cons]; have := decI_len N; omega
  · rw [e, List.length_cons, hexB_len, hi8_length]; omega
  · rw [e, List.length_cons, hexB_len]; omega
  · rw [e]; simp
theorem cand_int {zs : List Int} {X : Int} (h0 : zs.getD 0 0 = 105) (ht : Tells (zs.drop 1) X) : Cand zs 1 X 0 [] := fun K' N' f' Z' hi e => by
  rcases txtI_head hi.ok with ⟨_, q⟩ | ⟨_, q⟩ | ⟨_, q⟩ | ⟨_, q⟩
  · rw [q] at e
    subst e
    rw [ht N' hi.bn rfl]
    unfold txtI
    rw [if_pos (by simp [okI]), if_pos rfl]
  · rw [q] at e; subst e; simp at h0
  · rw [q] at e; subst e; simp at h0
  · rw [q] at e; subst e; simp at h0
theorem cand_float {zs : List Int} {y : Nat} (h0 : zs.getD 0 0 = 102) (h1 : isN (low (unH (zs.drop 1)).1) = false → y = low (unH (zs.drop 1)).1) (h2 : isN (low (unH (zs.drop 1)).1) = isN y) : Cand zs 2 0 y [] := fun K' N' f' Z' hi e => by
  rcases txtI_head hi.ok with ⟨_, q⟩ | ⟨_, q⟩ | ⟨_, q⟩ | ⟨_, q⟩
  · rw [q] at e; subst e; simp at h0
  · rw [q] at e
    subst e
    have hl := fbits_lt f' hi.bf
    have hu : (unH ((102 :: hexB (hi8 (fbits f') 8)).drop 1)).1 = hi8 (fbits f') 8 := by
      show (unH (hexB (hi8 (fbits f') 8))).1 = _
      rw [unH_hexB (hi8_bd _ 8)]
    rw [hu, low_hi8 _ hl] at h1 h2
    have hy : fbits y = fbits f' := by
      cases hn : isN (fbits f') with
      | false =>
        rw [h1 hn]
        unfold fbits
        rw [show isN (if isN f' = true then 9221120237041090560 else f') = false from hn, if_neg (by simp)]
      | true =>
        rw [hn] at h2
        have hf : fbits f' = 9221120237041090560 := by
          unfold fbits at hn ⊢
          split
          · rfl
          · rename_i q1
            rw [if_neg q1] at hn
            exact absurd hn q1
        rw [hf, fbits, if_pos h2.symm]
    unfold txtI
    rw [if_pos (by simp [okI]), if_neg (by omega), if_pos rfl, hy]
  · rw [q] at e; subst e; simp at h0
  · rw [q] at e; subst e; simp at h0
theorem cand_text {zs : List Int} (h0 : zs.getD 0 0 = 116) : Cand zs 3 0 0 (unH (zs.drop 1)).1 := fun K' N' f' Z' hi e => by
  have hK := of_decide_eq_true (show decide (0 ≤ K' ∧ K' ≤ 3 ∧ Z'.length ≤ 40 ∧ (K' = 1 ∨ N' = 0) ∧ (K' = 2 ∨ f' = 0) ∧ (K' = 3 ∨ Z'.length = 0)) = true from hi.ok)
  rcases txtI_head hi.ok with ⟨_, q⟩ | ⟨_, q⟩ | ⟨_, q⟩ | ⟨_, q⟩
  · rw [q] at e; subst e; simp at h0
  · rw [q] at e; subst e; simp at h0
  · rw [q] at e
    subst e
    have hu : (unH ((116 :: hexB Z').drop 1)).1 = Z' := by
      show (unH (hexB Z')).1 = _
      rw [unH_hexB hi.bz]
    rw [hu]
    unfold txtI
    rw [if_pos (by simp [okI]; omega), if_neg (by omega), if_neg (by omega), if_pos rfl]
  · rw [q] at e; subst e; simp at h0
theorem cand_none {zs : List Int} (h1 : zs.getD 0 0 ≠ 105) (h2 : zs.getD 0 0 ≠ 102) (h3 : zs.getD 0 0 ≠ 116) : Cand zs 0 0 0 [] := fun K' N' f' Z' hi e => by
  rcases txtI_head hi.ok with ⟨_, q⟩ | ⟨_, q⟩ | ⟨_, q⟩ | ⟨_, q⟩
  · rw [q] at e; subst e; simp at h1
  · rw [q] at e; subst e; simp at h2
  · rw [q] at e; subst e; simp at h3
  · rw [q] at e; subst e; rfl
end Go.Proofs.YtoppccfgcccijaaDoor
