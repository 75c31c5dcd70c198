/- Bounds of what is put and cleared; a cleared page is a page. No program, no conditions. -/
import Derived.Test.YtebhipicfgnajaaGreatPk
namespace Go.Proofs.YtebhipicfgnajaaGreat

theorem tot_set : ∀ (ss : List (List Int)) (q : Nat) (z : List Int), q < ss.length → tot (ss.set q z) + (ss.getD q []).length = tot ss + z.length
  | x :: xs, 0, z, _ => by simp [tot]; omega
  | x :: xs, q + 1, z, h => by
    have ih := tot_set xs q z (by simpa using h)
    simp only [List.set_cons_succ, tot, List.getD_cons_succ]
    omega
/-- Small slots. -/
structure SmP (ss : List (List Int)) : Prop where
  n : ss.length ≤ 16
  z : ∀ i, (ss.getD i []).length ≤ 92
  t : tot ss ≤ 240
theorem SmP.nil : SmP [] := ⟨by simp, by simp, by simp [tot]⟩
theorem SmP.ok {L : Int} {ss : List (List Int)} (h : okP L ss = true) : SmP ss := ⟨(okP_of h).n, (okP_of h).z, by have := (okP_of h).t; omega⟩
theorem put_small {L : Int} {ss : List (List Int)} {slot : Int} {z : List Int} {lsn RL : Int} {RS : List (List Int)} (hR : putP L ss slot z lsn = (RL, RS)) : SmP RS := by
  cases h : putOk L ss slot z lsn with
  | false =>
    obtain ⟨_, rfl⟩ : RL = 0 ∧ RS = [] := Prod.mk.inj (hR.symm.trans (putP_no h))
    exact SmP.nil
  | true =>
    obtain ⟨rfl, rfl⟩ : RL = lsn ∧ RS = layP ss slot.toNat z := Prod.mk.inj (hR.symm.trans (putP_yes h))
    unfold putOk at h
    simp only [Bool.and_eq_true] at h
    exact SmP.ok h.2
theorem getD_take {ss : List (List Int)} {k i : Nat} (h : i < k) : (ss.take k).getD i [] = ss.getD i [] := by
  rw [List.getD_eq_getElem?_getD, List.getD_eq_getElem?_getD, List.getElem?_take_of_lt h]
theorem trim_at {ss : List (List Int)} {i : Nat} (h : i < (trimP ss).length) : (trimP ss).getD i [] = ss.getD i [] := by
  conv => lhs; rw [trimP_pre ss]
  exact getD_take h
theorem trim_free {ss : List (List Int)} {i : Nat} (h : (trimP ss).length ≤ i) : (ss.getD i []).length = 0 := by
  induction hn : ss.length generalizing ss with
  | zero =>
    obtain rfl := List.eq_nil_of_length_eq_zero hn
    simp
  | succ n ih =>
    rcases List.eq_nil_or_concat ss with rfl | ⟨xs, z, rfl⟩
    · simp at hn
    · rw [List.concat_eq_append] at hn h ⊢
      by_cases hz : z.length = 0
      · rw [trimP_free xs z hz] at h
        rw [getD_app]
        split
        · exact ih h (by simpa using hn)
        · cases i - xs.length <;> simp [hz]
      · rw [trimP_end xs z hz] at h
        rw [List.getD_eq_getElem?_getD, List.getElem?_eq_none (by omega)]; simp
theorem tot_trim (ss : List (List Int)) : tot (trimP ss) = tot ss := by
  induction hn : ss.length generalizing ss with
  | zero =>
    obtain rfl := List.eq_nil_of_length_eq_zero hn
    rfl
  | succ n ih =>
    rcases List.eq_nil_or_concat ss with rfl | ⟨xs, z, rfl⟩
    · simp at hn
    · rw [List.concat_eq_append] at hn ⊢
      by_cases hz : z.length = 0
      · rw [trimP_free xs z hz, ih xs (by simpa using hn), tot_app]
        simp [tot, hz]
      · rw [trimP_end xs z hz]
theorem clear_ok {L : Int} {ss : List (List Int)} {q : Nat} {lsn : Int} (h : okP L ss = true) (hq : q < ss.length) (hl : 1 ≤ lsn ∧ lsn ≤ 1000000) : okP lsn (trimP (layP ss q [])) = true := by
  have k := okP_of h
  have t := tot_set ss q [] hq
  rw [layP_set ss q [] hq]
  have hle := trimP_len (ss.set q [])
  rw [List.length_set] at hle
  refine okP_mk ⟨by omega, hl.2, by have := k.n; omega, trimP_last _, fun i => ?_, ?_⟩
  · by_cases hi : i < (trimP (ss.set q [])).length
    · rw [trim_at hi, getD_set' _ _ _ _ _ hq]
      split
      · simp
      · exact k.z i
    · rw [List.getD_eq_getElem?_getD, List.getElem?_eq_none (by omega)]; simp
  · rw [tot_trim]
    have := k.t
    simp only [List.length_nil] at t
    omega
theorem clear_small {L : Int} {ss : List (List Int)} {slot lsn RL : Int} {RS : List (List Int)} (hR : clearP L ss slot lsn = (RL, RS)) : SmP RS := by
  cases h : clearOk L ss slot lsn with
  | false =>
    obtain ⟨_, rfl⟩ : RL = 0 ∧ RS = [] := Prod.mk.inj (hR.symm.trans (clearP_no h))
    exact SmP.nil
  | true =>
    obtain ⟨rfl, rfl⟩ : RL = lsn ∧ RS = trimP (layP ss slot.toNat []) := Prod.mk.inj (hR.symm.trans (clearP_yes h))
    unfold clearOk at h
    simp only [Bool.and_eq_true, decide_eq_true_eq] at h
    obtain ⟨⟨h1, h2⟩, h3⟩ := h
    exact SmP.ok (clear_ok h1 (by omega) h3)
end Go.Proofs.YtebhipicfgnajaaGreat
