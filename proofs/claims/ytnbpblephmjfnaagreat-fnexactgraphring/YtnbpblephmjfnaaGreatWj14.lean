/- Both take the same: plain. Conditions: none. -/
import Derived.Test.YtnbpblephmjfnaaGreatWf14
import Derived.Test.YtnbpblephmjfnaaGreatWh14
namespace Go.Proofs.YtnbpblephmjfnaaGreat
open Go.RowKit
set_option maxRecDepth 100000
structure InvT (ts : List Tk) (R : Eds) (L : List Nat) (lf : List Bool) : Prop where
 len : lf.length = ts.length
 asc : L.Pairwise (· < ·)
 mem : ∀ x, x ∈ L ↔ x < ts.length ∧ lf.getD x false = true
 edg : ∀ q z, z ∈ R q ↔ q ∈ L ∧ z ∈ edR ts q
theorem ah_iff (E : List Pr) (lf : List Bool) (d : Nat) : (ahV E lf d).2 = true ↔ ∃ p, p ∈ E ∧ p.2 = d ∧ lf.getD p.1 false = true := by
 unfold ahV
 cases h : E.find? (toB lf d) with
 | none =>
  rw [List.find?_eq_none] at h
  constructor
  · intro q; cases q
  · rintro ⟨p, hp, h1, h2⟩
    exact absurd (show toB lf d p = true by unfold toB; rw [h1, h2]; simp) (h p hp)
 | some p =>
  have h1 := List.find?_some h
  have h2 := List.mem_of_find?_eq_some h
  unfold toB at h1
  rw [Bool.and_eq_true, decide_eq_true_iff] at h1
  exact ⟨fun _ => ⟨p, h2, h1.1, h1.2⟩, fun _ => rfl⟩
theorem can_iff {ts : List Tk} {R : Eds} {L : List Nat} {lf : List Bool} (h : InvT ts R L lf) (d : Nat) (hd : d < ts.length) : canB (prE ts ts.length ts.length) lf d = true ↔ d ∈ L ∧ firstB R ts.length (d : Int) = true := by
 unfold canB firstB
 rw [Bool.and_eq_true, decide_eq_true_iff, h.mem]
 have key : (!(ahV (prE ts ts.length ts.length) lf d).2) = true ↔ ∀ j, j < ts.length → (d : Int) ∉ R j := by
  rw [Bool.not_eq_true', ← Bool.not_eq_true, ah_iff]
  constructor
  · intro q j hj hm
    obtain ⟨h1, h2⟩ := (h.edg j _).1 hm
    obtain ⟨d', e, _, h3, h4⟩ := (edR_mem ts j _).1 h2
    have : d = d' := by omega
    subst this
    exact q ⟨(j, d), (prE_mem ts _ _ j d).2 ⟨hj, h3, h4⟩, rfl, ((h.mem j).1 h1).2⟩
  · rintro q ⟨⟨j, d'⟩, hp, rfl, hl⟩
    obtain ⟨h1, h2, h3⟩ := (prE_mem ts _ _ j d').1 hp
    exact q j h1 ((h.edg j _).2 ⟨(h.mem j).2 ⟨h1, hl⟩, (edR_mem ts j _).2 ⟨d', rfl, h1, h2, h3⟩⟩)
 rw [key]
 exact ⟨fun q => ⟨⟨hd, q.1⟩, q.2⟩, fun q => ⟨q.1.2, q.2⟩⟩
theorem cut_mem {L : List Nat} (hp : L.Pairwise (· < ·)) {k : Nat} (hk : k < L.length) (x : Nat) : x ∈ L.take k ++ L.drop (k + 1) ↔ x ∈ L ∧ x ≠ L[k] := by
 have e : L = L.take k ++ L[k] :: L.drop (k + 1) := by rw [List.getElem_cons_drop, List.take_append_drop]
 have hp2 := hp
 rw [e, List.pairwise_append, List.pairwise_cons] at hp2
 obtain ⟨-, ⟨h2, -⟩, h3⟩ := hp2
 constructor
 · intro hx
   rcases List.mem_append.1 hx with q | q
   · exact ⟨List.mem_of_mem_take q, fun z => by have := h3 x q L[k] (List.mem_cons.2 (.inl rfl)); omega⟩
   · exact ⟨List.mem_of_mem_drop q, fun z => by have := h2 x q; omega⟩
 · rintro ⟨hx, hne⟩
   rw [e] at hx
   rcases List.mem_append.1 hx with q | q
   · exact List.mem_append.2 (.inl q)
   · rcases List.mem_cons.1 q with q | q
     · exact absurd q hne
     · exact List.mem_append.2 (.inr q)
theorem cut_asc {L : List Nat} (hp : L.Pairwise (· < ·)) (k : Nat) : (L.take k ++ L.drop (k + 1)).Pairwise (· < ·) := by
 refine hp.sublist ?_
 have := List.eraseIdx_sublist L k
 rw [List.eraseIdx_eq_take_drop_succ] at this
 exact this
theorem InvT.step {ts : List Tk} {R : Eds} {L : List Nat} {lf : List Bool} (h : InvT ts R L lf) {k : Nat} (hk : k < L.length) : InvT ts (upd R L[k] []) (L.take k ++ L.drop (k + 1)) (lf.set L[k] false) := by
 have hl : L[k] < lf.length := by rw [h.len]; exact ((h.mem _).1 (List.getElem_mem hk)).1
 refine ⟨by rw [List.length_set]; exact h.len, cut_asc h.asc k, fun x => ?_, fun q z => ?_⟩
 · rw [cut_mem h.asc hk, h.mem]
   by_cases e : x = L[k]
   · rw [e]
     simp [List.getD, hl]
   · have : (lf.set L[k] false).getD x false = lf.getD x false := by
      simp only [List.getD]
      rw [List.getElem?_set_ne (fun z => e z.symm)]
     rw [this]
     constructor
     · rintro ⟨q, _⟩; exact q
     · intro q; exact ⟨q, e⟩
 · rw [cut_mem h.asc hk]
   by_cases e : q = L[k]
   · rw [e, upd_same]
     simp
   · rw [upd_other _ _ e, h.edg]
     constructor
     · rintro ⟨h1, h2⟩; exact ⟨⟨h1, e⟩, h2⟩
     · rintro ⟨⟨h1, _⟩, h2⟩; exact ⟨h1, h2⟩
theorem tk_same {ts : List Tk} : ∀ (f : Nat) {R : Eds} {T L : List Nat} {lf : List Bool}, InvT ts R L lf → (tkF ts.length f R T L).1 = (tkS ts.length (prE ts ts.length ts.length) f T lf).1 ∧ InvT ts (tkF ts.length f R T L).2.2 (tkF ts.length f R T L).2.1 (tkS ts.length (prE ts ts.length ts.length) f T lf).2 ∧ (tkF ts.length f R T L).1.length + (tkF ts.length f R T L).2.1.length = T.length + L.length
 | 0, R, T, L, lf, h => ⟨rfl, h, rfl⟩
 | f + 1, R, T, L, lf, h => by
  cases hf : L.findIdx? (fun x => firstB R ts.length ((x : Nat) : Int)) with
  | none =>
   rw [List.findIdx?_eq_none_iff] at hf
   have e1 := tkF_none (n := ts.length) (R := R) (T := T) (L := L) (fun j hj => by rw [nI_get hj]; simpa using hf L[j] (List.getElem_mem hj)) (f + 1)
   have e2 := tkS_none (n := ts.length) (E := prE ts ts.length ts.length) (T := T) (lf := lf) (fun d hd => by
    cases hc : canB (prE ts ts.length ts.length) lf d with
    | false => rfl
    | true =>
     obtain ⟨h1, h2⟩ := (can_iff h d hd).1 hc
     have := hf d h1
     rw [h2] at this; cases this) (f + 1)
   rw [e1, e2]
   exact ⟨rfl, h, rfl⟩
  | some k =>
   rw [List.findIdx?_eq_some_iff_getElem] at hf
   obtain ⟨hk, h1, h2⟩ := hf
   have hgd : L.getD k 0 = L[k] := by simp [List.getD, hk]
   have hdn : L[k] < ts.length := ((h.mem _).1 (List.getElem_mem hk)).1
   have e1 := tkF_some (n := ts.length) (R := R) (T := T) (L := L) hk (by rw [nI_get hk]; exact h1) (fun j hj => by rw [nI_get (by omega)]; simpa using h2 j hj) f
   have e2 := tkS_some (n := ts.length) (E := prE ts ts.length ts.length) (T := T) (lf := lf) hdn ((can_iff h _ hdn).2 ⟨List.getElem_mem hk, h1⟩) (fun e he => by
    cases hc : canB (prE ts ts.length ts.length) lf e with
    | false => rfl
    | true =>
     obtain ⟨g1, g2⟩ := (can_iff h e (by omega)).1 hc
     obtain ⟨j, hj, rfl⟩ := List.getElem_of_mem g1
     have hjk : j < k := by
      rcases Nat.lt_trichotomy j k with q | q | q
      · exact q
      · subst q; omega
      · have := List.pairwise_iff_getElem.1 h.asc k j hk hj q
        omega
     have := h2 j hjk
     rw [g2] at this; simp at this) f
   rw [hgd] at e1
   rw [e1, e2]
   have ih := tk_same f (T := T ++ [L[k]]) (h.step hk)
   refine ⟨ih.1, ih.2.1, ih.2.2.trans ?_⟩
   rw [List.length_append, List.length_append, List.length_take, List.length_drop]
   simp
   omega
theorem inv_start (ts : List Tk) : InvT ts (edR ts) (List.range ts.length) (List.replicate ts.length true) := by
 refine ⟨by simp, List.pairwise_lt_range, fun x => ?_, fun q z => ?_⟩
 · rw [List.mem_range]
   constructor
   · intro h; exact ⟨h, by simp [List.getD, h]⟩
   · exact fun h => h.1
 · rw [List.mem_range]
   constructor
   · intro h
     obtain ⟨j, _, h1, _⟩ := (edR_mem ts q z).1 h
     exact ⟨h1, h⟩
   · exact fun h => h.2
theorem take_same (ts : List Tk) : (tkS ts.length (prE ts ts.length ts.length) ts.length [] (List.replicate ts.length true)).1 = takenL ts ∧ (leftL ts = [] ↔ ¬ (takenL ts).length < ts.length) := by
 have h := tk_same (ts := ts) ts.length (T := []) (inv_start ts)
 refine ⟨h.1.symm, ?_⟩
 have h2 := h.2.2
 rw [List.length_range, List.length_nil, Nat.zero_add] at h2
 have h3 : (takenL ts).length + (leftL ts).length = ts.length := h2
 rw [← List.length_eq_zero_iff]
 omega
end Go.Proofs.YtnbpblephmjfnaaGreat
