/- Bounds of what is put and cleared; a cleared page is a page. No program, no conditions. -/
import Derived.Test.YtkfhfjghfadofaaGreatPk
namespace Go.Proofs.YtkfhfjghfadofaaGreat
structure SmP (ss : List (List Int)) : Prop where
 n : ss.length ≤ 16
 z : ∀ i, (ss.getD i []).length ≤ 92
 t : tot ss ≤ 240
theorem SmP.nil : SmP [] := ⟨by simp, by simp, by simp [tot]⟩
theorem SmP.ok {L : Int} {ss : List (List Int)} (h : okP L ss = true) : SmP ss := ⟨(okP_of h).n, (okP_of h).z, by have := (okP_of h).t; omega⟩
theorem put_small {L : Int} {ss : List (List Int)} {slot : Int} {z : List Int} {lsn RL : Int} {RS : List (List Int)} (hR : putP L ss slot z lsn = (RL, RS)) : SmP RS := by
 cases h : putOk L ss slot z lsn with
 | false =>
  obtain ⟨_, rfl⟩ : RL = 0 ∧ RS = [] := Prod.mk.inj (hR.symm.trans (putP_no h))
  exact SmP.nil
 | true =>
  obtain ⟨rfl, rfl⟩ : RL = lsn ∧ RS = layP ss slot.toNat z := Prod.mk.inj (hR.symm.trans (putP_yes h))
  unfold putOk at h
  simp only [Bool.and_eq_true] at h
  exact SmP.ok h.2
end Go.Proofs.YtkfhfjghfadofaaGreat
