/- Pages, plain: what is one, how much is used of it, where bytes would come, what is put and cleared. No program, no conditions. -/
import Derived.Test.YtebhipicfgnajaaMga
namespace Go.Proofs.Ytebhipicfgnajaa

/-- The last slot is free. -/
def endF (ss : List (List Int)) : Bool := decide (0 < ss.length ∧ (ss.getD (ss.length - 1) []).length = 0)
/-- A slot is too long. -/
def anyL (ss : List (List Int)) : Bool := ss.any fun z => decide (92 < z.length)
def okP (L : Int) (ss : List (List Int)) : Bool := decide (0 ≤ L ∧ L ≤ 1000000) && decide (ss.length ≤ 16) && !endF ss && !anyL ss && decide (1 + ss.length + tot ss ≤ 240)
def usedP (L : Int) (ss : List (List Int)) : Int := if okP L ss = true then 1 + (ss.length : Int) + (tot ss : Int) else -1

structure OkP (L : Int) (ss : List (List Int)) : Prop where
  l0 : 0 ≤ L
  l1 : L ≤ 1000000
  n : ss.length ≤ 16
  e : 0 < ss.length → 0 < (ss.getD (ss.length - 1) []).length
  z : ∀ i, (ss.getD i []).length ≤ 92
  t : 1 + ss.length + tot ss ≤ 240

theorem anyL_at {ss : List (List Int)} (h : anyL ss = false) (i : Nat) : (ss.getD i []).length ≤ 92 := by
  by_cases hi : i < ss.length
  · have := List.any_eq_false.1 h (ss.getD i []) (by simp [List.getD, hi])
    simpa using this
  · rw [List.getD_eq_getElem?_getD, List.getElem?_eq_none (by omega)]; simp
theorem anyL_no {ss : List (List Int)} (h : ∀ i, i < ss.length → (ss.getD i []).length ≤ 92) : anyL ss = false := by
  refine List.any_eq_false.2 fun x hx => ?_
  obtain ⟨i, hi, rfl⟩ := List.mem_iff_getElem.1 hx
  have := h i hi
  simp [List.getD, hi] at this
  simpa using this
theorem anyL_yes {ss : List (List Int)} {i : Nat} (h : 92 < (ss.getD i []).length) : anyL ss = true := by
  cases e : anyL ss with
  | true => rfl
  | false => have := anyL_at e i; omega

theorem okP_of {L : Int} {ss : List (List Int)} (h : okP L ss = true) : OkP L ss := by
  unfold okP at h
  simp only [Bool.and_eq_true, decide_eq_true_eq, Bool.not_eq_true'] at h
  obtain ⟨⟨⟨⟨h1, h2⟩, h3⟩, h4⟩, h5⟩ := h
  refine ⟨h1.1, h1.2, h2, fun h0 => ?_, anyL_at h4, h5⟩
  unfold endF at h3
  have := of_decide_eq_false h3
  omega
theorem okP_mk {L : Int} {ss : List (List Int)} (h : OkP L ss) : okP L ss = true := by
  unfold okP
  simp only [Bool.and_eq_true, decide_eq_true_eq, Bool.not_eq_true']
  refine ⟨⟨⟨⟨⟨h.l0, h.l1⟩, h.n⟩, ?_⟩, anyL_no fun i _ => h.z i⟩, h.t⟩
  unfold endF
  refine decide_eq_false ?_
  rintro ⟨h1, h2⟩
  have := h.e h1
  omega
theorem usedP_yes {L : Int} {ss : List (List Int)} (h : okP L ss = true) : usedP L ss = 1 + (ss.length : Int) + (tot ss : Int) := by unfold usedP; rw [if_pos h]
theorem usedP_no {L : Int} {ss : List (List Int)} (h : okP L ss = false) : usedP L ss = -1 := by unfold usedP; rw [if_neg (by simp [h])]
theorem usedP_bd {L : Int} {ss : List (List Int)} : (okP L ss = false ∧ usedP L ss = -1) ∨ (okP L ss = true ∧ 1 ≤ usedP L ss ∧ usedP L ss ≤ 240) := by
  cases h : okP L ss with
  | false => exact .inl ⟨rfl, usedP_no h⟩
  | true => have := (okP_of h).t; exact .inr ⟨rfl, by rw [usedP_yes h]; omega, by rw [usedP_yes h]; omega⟩

/-- The first free slot, if there is one. -/
def freeP (ss : List (List Int)) : Option Nat := ss.findIdx? fun z => z.length == 0
theorem freeP_some {ss : List (List Int)} {k : Nat} (hk : k < ss.length) (h : (ss.getD k []).length = 0) (hj : ∀ j, j < k → (ss.getD j []).length ≠ 0) : freeP ss = some k := by
  unfold freeP
  rw [List.findIdx?_eq_some_iff_getElem]
  refine ⟨hk, by simpa [List.getD, hk] using h, fun j hjk => ?_⟩
  have := hj j hjk
  simpa [List.getD, show j < ss.length by omega] using this
theorem freeP_none {ss : List (List Int)} (h : ∀ j, j < ss.length → (ss.getD j []).length ≠ 0) : freeP ss = none := by
  unfold freeP
  rw [List.findIdx?_eq_none_iff]
  intro x hx
  obtain ⟨i, hi, rfl⟩ := List.mem_iff_getElem.1 hx
  have := h i hi
  simpa [List.getD, hi] using this
theorem freeP_is {ss : List (List Int)} {k : Nat} (h : freeP ss = some k) : k < ss.length ∧ (ss.getD k []).length = 0 ∧ ∀ j, j < k → (ss.getD j []).length ≠ 0 := by
  unfold freeP at h
  rw [List.findIdx?_eq_some_iff_getElem] at h
  obtain ⟨hk, h1, h2⟩ := h
  refine ⟨hk, by simpa [List.getD, hk] using h1, fun j hj => ?_⟩
  have := h2 j hj
  simpa [List.getD, show j < ss.length by omega] using this
theorem freeP_not {ss : List (List Int)} (h : freeP ss = none) (j : Nat) (hj : j < ss.length) : (ss.getD j []).length ≠ 0 := by
  unfold freeP at h
  rw [List.findIdx?_eq_none_iff] at h
  have := h (ss.getD j []) (by simp [List.getD, hj])
  simpa using this

/-- Behind the last slot, if there is room. -/
def backP (L : Int) (ss : List (List Int)) (n : Int) : Int := if ss.length < 16 ∧ usedP L ss + 1 + n ≤ 240 then (ss.length : Int) else -1
def placeP (L : Int) (ss : List (List Int)) (n : Int) : Int :=
  if okP L ss = false ∨ ¬ (1 ≤ n ∧ n ≤ 92) then -1 else
  match freeP ss with
  | some k => if usedP L ss + n ≤ 240 then (k : Int) else backP L ss n
  | none => backP L ss n
theorem placeP_no {L : Int} {ss : List (List Int)} {n : Int} (h : okP L ss = false ∨ ¬ (1 ≤ n ∧ n ≤ 92)) : placeP L ss n = -1 := by unfold placeP; rw [if_pos h]
theorem placeP_free {L : Int} {ss : List (List Int)} {n : Int} (h : okP L ss = true) (hn : 1 ≤ n ∧ n ≤ 92) {k : Nat} (hf : freeP ss = some k) (hu : usedP L ss + n ≤ 240) : placeP L ss n = k := by
  unfold placeP; rw [if_neg (by rw [h]; simpa using hn), hf]; simp only [if_pos hu]
theorem placeP_full {L : Int} {ss : List (List Int)} {n : Int} (h : okP L ss = true) (hn : 1 ≤ n ∧ n ≤ 92) {k : Nat} (hf : freeP ss = some k) (hu : ¬ usedP L ss + n ≤ 240) : placeP L ss n = backP L ss n := by
  unfold placeP; rw [if_neg (by rw [h]; simpa using hn), hf]; simp only [if_neg hu]
theorem placeP_none {L : Int} {ss : List (List Int)} {n : Int} (h : okP L ss = true) (hn : 1 ≤ n ∧ n ≤ 92) (hf : freeP ss = none) : placeP L ss n = backP L ss n := by
  unfold placeP; rw [if_neg (by rw [h]; simpa using hn), hf]

/-- Free slots at the end left out. -/
def trimP (ss : List (List Int)) : List (List Int) := (ss.reverse.dropWhile fun z => z.length == 0).reverse
theorem trimP_nil : trimP [] = [] := rfl
theorem trimP_end (ss : List (List Int)) (z : List Int) (h : z.length ≠ 0) : trimP (ss ++ [z]) = ss ++ [z] := by
  have e : (z.length == 0) = false := by simpa using h
  simp [trimP, e]
theorem trimP_free (ss : List (List Int)) (z : List Int) (h : z.length = 0) : trimP (ss ++ [z]) = trimP ss := by
  have e : (z.length == 0) = true := by simpa using h
  simp [trimP, e]
theorem trimP_ok {ss : List (List Int)} (h : 0 < ss.length → 0 < (ss.getD (ss.length - 1) []).length) : trimP ss = ss := by
  rcases List.eq_nil_or_concat ss with rfl | ⟨xs, z, rfl⟩
  · rfl
  · rw [List.concat_eq_append]
    refine trimP_end xs z ?_
    have := h (by simp)
    simp [List.getD] at this
    have h2 : z.length = 0 ↔ z = [] := List.length_eq_zero_iff
    omega
/-- What is left is the beginning up to the last slot that is not free. -/
theorem trimP_take (ss : List (List Int)) : ∀ k, k ≤ ss.length → (∀ j, k ≤ j → j < ss.length → (ss.getD j []).length = 0) → trimP ss = trimP (ss.take k) := by
  intro k hk h
  obtain ⟨m, hm⟩ : ∃ m, ss.length - k = m := ⟨_, rfl⟩
  induction m generalizing k with
  | zero => rw [List.take_of_length_le (by omega)]
  | succ m ih =>
    have e := ih (k + 1) (by omega) (fun j h1 h2 => h j (by omega) h2) (by omega)
    rw [e, List.take_succ_eq_append_getElem (by omega : k < ss.length)]
    refine trimP_free _ _ ?_
    have := h k (Nat.le_refl _) (by omega)
    simpa [List.getD, show k < ss.length by omega] using this
theorem trimP_stop {ss : List (List Int)} {k : Nat} (hk : k < ss.length) (h : (ss.getD k []).length ≠ 0) (hj : ∀ j, k < j → j < ss.length → (ss.getD j []).length = 0) : trimP ss = ss.take (k + 1) := by
  rw [trimP_take ss (k + 1) (by omega) (fun j h1 h2 => hj j (by omega) h2), List.take_succ_eq_append_getElem hk]
  refine trimP_end _ _ ?_
  simpa [List.getD, hk] using h
theorem trimP_all {ss : List (List Int)} (hj : ∀ j, j < ss.length → (ss.getD j []).length = 0) : trimP ss = [] := by
  rw [trimP_take ss 0 (Nat.zero_le _) (fun j _ h2 => hj j h2)]; rfl
theorem trimP_len (ss : List (List Int)) : (trimP ss).length ≤ ss.length := by
  unfold trimP
  have := (List.dropWhile_suffix (fun z : List Int => z.length == 0) (l := ss.reverse)).length_le
  simpa using this
theorem trimP_pre (ss : List (List Int)) : trimP ss = ss.take (trimP ss).length := by
  obtain ⟨t, ht⟩ := List.dropWhile_suffix (fun z : List Int => z.length == 0) (l := ss.reverse)
  have e : ss = trimP ss ++ t.reverse := by
    have := congrArg List.reverse ht
    simp only [List.reverse_append, List.reverse_reverse] at this
    exact this.symm
  conv => rhs; rw [e]
  have h2 : (trimP (trimP ss ++ t.reverse)).length = (trimP ss).length := by rw [← e]
  rw [h2]
  simp
theorem trimP_last (ss : List (List Int)) : 0 < (trimP ss).length → 0 < ((trimP ss).getD ((trimP ss).length - 1) []).length := by
  induction hn : ss.length generalizing ss with
  | zero =>
    obtain rfl := List.eq_nil_of_length_eq_zero hn
    intro h; simp [trimP] at h
  | succ n ih =>
    rcases List.eq_nil_or_concat ss with rfl | ⟨xs, z, rfl⟩
    · simp at hn
    · rw [List.concat_eq_append] at hn ⊢
      by_cases h : z.length = 0
      · rw [trimP_free xs z h]
        exact ih xs (by simpa using hn)
      · rw [trimP_end xs z h]
        intro _
        simp [List.getD]
        omega

/-- The slots with this one laid in. -/
def layP (ss : List (List Int)) (slot : Nat) (z : List Int) : List (List Int) := (ss ++ List.replicate (slot + 1 - ss.length) []).set slot z
theorem layP_length (ss : List (List Int)) (slot : Nat) (z : List Int) : (layP ss slot z).length = max ss.length (slot + 1) := by simp [layP]; omega
theorem layP_at (ss : List (List Int)) (slot : Nat) (z : List Int) (i : Nat) : (layP ss slot z).getD i [] = if i = slot then z else ss.getD i [] := by
  unfold layP
  rw [getD_set' _ _ _ _ _ (by simp; omega)]
  by_cases h : i = slot
  · rw [if_pos h, if_pos h]
  · rw [if_neg h, if_neg h, getD_app]
    by_cases h2 : i < ss.length
    · rw [if_pos h2]
    · rw [if_neg h2]
      rw [List.getD_eq_getElem?_getD, List.getD_eq_getElem?_getD, List.getElem?_eq_none (l := ss) (by omega), List.getElem?_replicate]
      split <;> simp
def zeroP : Int × List (List Int) := (0, [])
def putOk (L : Int) (ss : List (List Int)) (slot : Int) (z : List Int) (lsn : Int) : Bool :=
  okP L ss && decide (0 ≤ slot ∧ slot ≤ 15) && decide (1 ≤ z.length ∧ z.length ≤ 92) && decide (1 ≤ lsn ∧ lsn ≤ 1000000) && okP lsn (layP ss slot.toNat z)
def putP (L : Int) (ss : List (List Int)) (slot : Int) (z : List Int) (lsn : Int) : Int × List (List Int) := if putOk L ss slot z lsn = true then (lsn, layP ss slot.toNat z) else zeroP
def clearOk (L : Int) (ss : List (List Int)) (slot : Int) (lsn : Int) : Bool := okP L ss && decide (0 ≤ slot ∧ slot ≤ (ss.length : Int) - 1) && decide (1 ≤ lsn ∧ lsn ≤ 1000000)
def clearP (L : Int) (ss : List (List Int)) (slot : Int) (lsn : Int) : Int × List (List Int) := if clearOk L ss slot lsn = true then (lsn, trimP (layP ss slot.toNat [])) else zeroP

theorem lay_end {L : Int} {ss : List (List Int)} (h : okP L ss = true) {slot : Nat} {z : List Int} (hz : 0 < z.length) : 0 < (layP ss slot z).length → 0 < ((layP ss slot z).getD ((layP ss slot z).length - 1) []).length := by
  intro _
  rw [layP_at, layP_length]
  by_cases e : max ss.length (slot + 1) - 1 = slot
  · rw [if_pos e]; exact hz
  · rw [if_neg e]
    have h1 : max ss.length (slot + 1) = ss.length := by omega
    rw [h1]
    exact (okP_of h).e (by omega)
theorem lay_trim {L : Int} {ss : List (List Int)} (h : okP L ss = true) {slot : Nat} {z : List Int} (hz : 0 < z.length) : trimP (layP ss slot z) = layP ss slot z := trimP_ok (lay_end h hz)
end Go.Proofs.Ytebhipicfgnajaa
