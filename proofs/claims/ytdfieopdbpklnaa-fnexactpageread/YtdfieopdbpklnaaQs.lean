/- A page comes back from its bytes; whose number counts; what is read is small. No program, no conditions. -/
import Derived.Test.YtdfieopdbpklnaaQr
namespace Go.Proofs.Ytdfieopdbpklnaa

theorem body_head {ss : List (List Int)} (j : Nat) (hj : j ≤ ss.length) : (bodyP ss).getD j 0 = (headP ss).getD j 0 := by
  have : (headP ss).length = 1 + ss.length := by simp [headP, lensP_len]; omega
  unfold bodyP fillP
  rw [List.append_assoc, getD_app, if_pos (by omega)]
theorem len_zero {ss : List (List Int)} : lenB (bodyP ss) 0 = ss.length := by
  unfold lenB; rw [body_head 0 (Nat.zero_le _)]; simp [headP]
theorem len_at {ss : List (List Int)} (j : Nat) (hj : j < ss.length) : lenB (bodyP ss) (1 + j) = (ss.getD j []).length := by
  unfold lenB; rw [body_head (1 + j) (by omega), Nat.add_comm 1 j]
  simp [headP, lensP, List.getD, hj]
theorem flat_split : ∀ (ss : List (List Int)) (j : Nat), j < ss.length → (ss.flatten.drop (tot (ss.take j))).take (ss.getD j []).length = ss.getD j []
  | z :: ss, 0, _ => by simp [tot]
  | z :: ss, j + 1, h => by
    have ih := flat_split ss j (by simpa using h)
    simp only [List.flatten_cons, List.take_succ_cons, tot, List.getD_cons_succ]
    rw [← List.drop_drop, List.drop_append_of_le_length (by omega), List.drop_eq_nil_of_le (Nat.le_refl _), List.nil_append]
    exact ih
theorem body_cut {ss : List (List Int)} (j : Nat) (hj : j < ss.length) : ((bodyP ss).drop (1 + ss.length + tot (ss.take j))).take (ss.getD j []).length = ss.getD j [] := by
  have hh : (headP ss).length = 1 + ss.length := by simp [headP, lensP_len]; omega
  have hf := flat_tot ss
  have ht := tot_step ss j hj
  have ht2 := tot_take ss (j + 1)
  have e := flat_split ss j hj
  unfold bodyP fillP
  generalize List.replicate (240 - (headP ss ++ ss.flatten).length) (0 : Int) = R
  rw [List.append_assoc, ← hh, ← List.drop_drop, List.drop_append_of_le_length (by omega), List.drop_eq_nil_of_le (Nat.le_refl _), List.nil_append, List.drop_append_of_le_length (by omega), List.take_append_of_le_length (by rw [List.length_drop]; omega)]
  exact e
theorem cut_back {L : Int} {ss : List (List Int)} (h : okP L ss = true) : ∀ j, j ≤ ss.length → cutA (bodyP ss) j = some (ss.take j, 1 + ss.length + tot (ss.take j))
  | 0, _ => by simp only [cutA, len_zero]; simp [tot]
  | j + 1, hj => by
    have ih := cut_back h j (by omega)
    have ht := tot_step ss j (by omega)
    have ht2 := tot_take ss (j + 1)
    have hl := bodyP_len h
    have hk := (okP_of h).t
    have el := len_at (ss := ss) j (by omega)
    have := cutA_some ih (by rw [el, hl]; omega)
    rw [this, el, body_cut j (by omega)]
    rw [List.take_succ_eq_append_getElem (by omega : j < ss.length)] at ht ⊢
    simp only [tot_app, tot, List.getD, List.getElem?_eq_getElem (by omega : j < ss.length), Option.getD_some, Option.some.injEq, Prod.mk.injEq]
    constructor
    · trivial
    · omega
theorem slots_back {L : Int} {ss : List (List Int)} (h : okP L ss = true) : slotsZ (bodyP ss) = some ss := by
  have c := cut_back h ss.length (Nat.le_refl _)
  rw [← len_zero] at c
  have := slotsZ_yes (body := bodyP ss) (by rw [len_zero, bodyP_len h]; have := (okP_of h).t; omega) c
  rw [this, len_zero, List.take_of_length_le (Nat.le_refl _)]
theorem read_back {L : Int} {ss : List (List Int)} (h : okP L ss = true) : readP (bytesP L ss) = some (L, ss) := by
  have hn := (bytes_num h 0 (by omega)).1
  have hn' : numOf (bytesP L ss) 0 4 = L := hn
  unfold readP
  rw [if_pos (bytesP_len h), body_back h, slots_back h]
  simp only
  rw [hn', if_pos rfl]
/-- What is read is a page that has just these bytes. -/
theorem read_some {zs : List Int} {L : Int} {ss : List (List Int)} (h : readP zs = some (L, ss)) : bytesP L ss = zs ∧ zs.length = 256 := by
  unfold readP at h
  split at h
  · rename_i hl
    split at h
    · cases h
    · split at h
      · rename_i hb
        cases h
        exact ⟨hb, hl⟩
      · cases h
  · cases h
theorem read_iff {zs : List Int} {L : Int} {ss : List (List Int)} (hz : zs.length = 256) (h : bytesP L ss = zs) : readP zs = some (L, ss) := by
  have ho := bytes_ok h (by intro e; rw [e] at hz; simp at hz)
  rw [← h]
  exact read_back ho
/-- The program reads the last number: it answers the same. -/
theorem read_last {zs : List Int} (hz : zs.length = 256) {ss : List (List Int)} (hs : slotsZ (bodyZ zs 4) = some ss) :
    (∀ L, L = numOf ((zs.drop 192).take 4) 0 4 → bytesP L ss = zs → readP zs = some (L, ss)) ∧ (bytesP (numOf ((zs.drop 192).take 4) 0 4) ss ≠ zs → readP zs = none) := by
  constructor
  · intro L _ h
    exact read_iff hz h
  · intro hne
    cases hr : readP zs with
    | none => rfl
    | some p =>
      exfalso
      obtain ⟨L, ts⟩ := p
      obtain ⟨hb, _⟩ := read_some hr
      have ho := bytes_ok hb (by intro e; rw [e] at hz; simp at hz)
      have hn := (bytes_num ho 3 (by omega)).2
      rw [hb] at hn
      have hbb := body_back ho
      have hsl := slots_back ho
      rw [hb] at hbb
      rw [← hbb, hs] at hsl
      cases hsl
      exact hne (by rw [show 64 * 3 = 192 from rfl] at hn; rw [hn]; exact hb)
theorem read_none_slots {zs : List Int} (hs : slotsZ (bodyZ zs 4) = none) : readP zs = none := by
  unfold readP
  split
  · rw [hs]
  · rfl
theorem read_none_len {zs : List Int} (h : zs.length ≠ 256) : readP zs = none := by unfold readP; rw [if_neg h]
theorem read_small {zs : List Int} {RL : Int} {RS : List (List Int)} (h : (readP zs).getD (0, []) = (RL, RS)) : SmP RS := by
  cases hr : readP zs with
  | none =>
    rw [hr] at h
    cases h
    exact SmP.nil
  | some p =>
    rw [hr] at h
    obtain ⟨L, ss⟩ := p
    cases h
    obtain ⟨hb, hz⟩ := read_some hr
    exact SmP.ok (bytes_ok hb (by intro e; rw [e] at hz; simp at hz))
end Go.Proofs.Ytdfieopdbpklnaa
