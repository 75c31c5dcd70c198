/- What a place is good for. No program, no conditions. -/
import Derived.Test.YtdfieopdbpklnaaMgb
import Derived.Test.YtdfieopdbpklnaaMga
namespace Go.Proofs.Ytdfieopdbpklnaa

theorem tot_lay {ss : List (List Int)} {q : Nat} {z : List Int} (hq : q ≤ ss.length) : tot (layP ss q z) + (ss.getD q []).length = tot ss + z.length := by
  rcases Nat.lt_or_ge q ss.length with h | h
  · rw [layP_set ss q z h]; exact tot_set ss q z h
  · obtain rfl : q = ss.length := by omega
    have e : layP ss ss.length z = ss ++ [z] := by
      unfold layP
      rw [show ss.length + 1 - ss.length = 1 by omega]
      simp
    rw [e, tot_app]
    simp [tot]
theorem lay_is {L : Int} {ss : List (List Int)} {q : Nat} {z : List Int} (h : okP L ss = true) (hq15 : q ≤ 15) (hz : 1 ≤ z.length ∧ z.length ≤ 92) : okP 5 (layP ss q z) = decide (1 + max ss.length (q + 1) + tot (layP ss q z) ≤ 240) := by
  have k := okP_of h
  by_cases ht : 1 + max ss.length (q + 1) + tot (layP ss q z) ≤ 240
  · rw [decide_eq_true ht]
    refine okP_mk ⟨by omega, by omega, by rw [layP_length]; have := k.n; omega, lay_end h (by omega), fun i => ?_, by rw [layP_length]; exact ht⟩
    rw [layP_at]
    split
    · omega
    · exact k.z i
  · rw [decide_eq_false ht]
    cases h5 : okP 5 (layP ss q z) with
    | false => rfl
    | true =>
      exfalso
      have := (okP_of h5).t
      rw [layP_length] at this
      exact ht this
theorem put_is {L : Int} {ss : List (List Int)} {q : Nat} {z : List Int} (h : okP L ss = true) (hz : 1 ≤ z.length ∧ z.length ≤ 92) : putOk L ss (q : Int) z 5 = decide (q ≤ 15 ∧ 1 + max ss.length (q + 1) + tot (layP ss q z) ≤ 240) := by
  by_cases h15 : q ≤ 15
  · rw [putOk_eq h ⟨by omega, by omega⟩ hz ⟨by omega, by omega⟩, Int.toNat_natCast, lay_is h h15 hz]
    simp [h15]
  · rw [putOk_2 (by omega), decide_eq_false (fun hh => h15 hh.1)]
theorem used_tot {L : Int} {ss : List (List Int)} (h : okP L ss = true) : usedP L ss = ((1 + ss.length + tot ss : Nat) : Int) := by rw [usedP_yes h]; omega
/-- A place that is found is a free slot or the next, and the bytes go there. -/
theorem place_yes {L : Int} {ss : List (List Int)} {z : List Int} (h : okP L ss = true) (hz : 1 ≤ z.length ∧ z.length ≤ 92) {s : Int} (hs : placeP L ss (z.length : Int) = s) (h0 : 0 ≤ s) :
    putOk L ss s z 5 = true ∧ (s = (ss.length : Int) ∨ ∃ q : Nat, s = (q : Int) ∧ q < ss.length ∧ (ss.getD q []).length = 0) := by
  have hu := used_tot h
  have hk := okP_of h
  have hz' : 1 ≤ (z.length : Int) ∧ (z.length : Int) ≤ 92 := by omega
  have back : backP L ss (z.length : Int) = s → putOk L ss s z 5 = true ∧ s = (ss.length : Int) := by
    intro e
    unfold backP at e
    split at e
    · rename_i hc
      subst e
      refine ⟨?_, rfl⟩
      rw [put_is h hz]
      have := tot_lay (z := z) (Nat.le_refl ss.length)
      have : (ss.getD ss.length []).length = 0 := by simp
      exact decide_eq_true ⟨by omega, by omega⟩
    · omega
  cases hf : freeP ss with
  | none =>
    rw [placeP_none h hz' hf] at hs
    exact ⟨(back hs).1, .inl (back hs).2⟩
  | some q =>
    obtain ⟨hq, he, _⟩ := freeP_is hf
    by_cases hfit : usedP L ss + (z.length : Int) ≤ 240
    · rw [placeP_free h hz' hf hfit] at hs
      subst hs
      refine ⟨?_, .inr ⟨q, rfl, hq, he⟩⟩
      rw [put_is h hz]
      have := tot_lay (z := z) (Nat.le_of_lt hq)
      have := hk.n
      exact decide_eq_true ⟨by omega, by omega⟩
    · rw [placeP_full h hz' hf hfit] at hs
      exact ⟨(back hs).1, .inl (back hs).2⟩
/-- Where no place is found no free slot and not the next takes the bytes. -/
theorem place_none {L : Int} {ss : List (List Int)} {z : List Int} (h : okP L ss = true) (hz : 1 ≤ z.length ∧ z.length ≤ 92) (hs : placeP L ss (z.length : Int) < 0) (q : Nat) (hq : q ≤ ss.length) (he : q = ss.length ∨ (ss.getD q []).length = 0) : putOk L ss (q : Int) z 5 = false := by
  have hu := used_tot h
  have hz' : 1 ≤ (z.length : Int) ∧ (z.length : Int) ≤ 92 := by omega
  have hb : ¬ (ss.length < 16 ∧ usedP L ss + 1 + (z.length : Int) ≤ 240) ∧ (freeP ss = none ∨ ¬ usedP L ss + (z.length : Int) ≤ 240) := by
    have bk : backP L ss (z.length : Int) < 0 → ¬ (ss.length < 16 ∧ usedP L ss + 1 + (z.length : Int) ≤ 240) := by
      intro e hc
      unfold backP at e
      rw [if_pos hc] at e
      omega
    cases hf : freeP ss with
    | none =>
      rw [placeP_none h hz' hf] at hs
      exact ⟨bk hs, .inl rfl⟩
    | some k =>
      by_cases hfit : usedP L ss + (z.length : Int) ≤ 240
      · rw [placeP_free h hz' hf hfit] at hs
        omega
      · rw [placeP_full h hz' hf hfit] at hs
        exact ⟨bk hs, .inr hfit⟩
  rw [put_is h hz]
  have ht := tot_lay (z := z) hq
  refine decide_eq_false ?_
  rintro ⟨h15, h240⟩
  rcases Nat.lt_or_ge q ss.length with hlt | hge
  · have h0 : (ss.getD q []).length = 0 := by rcases he with e | e <;> omega
    rcases hb.2 with hn | hn
    · exact freeP_not hn q hlt h0
    · omega
  · obtain rfl : q = ss.length := by omega
    have h0 : (ss.getD ss.length []).length = 0 := by simp
    exact hb.1 ⟨by omega, by omega⟩
end Go.Proofs.Ytdfieopdbpklnaa
