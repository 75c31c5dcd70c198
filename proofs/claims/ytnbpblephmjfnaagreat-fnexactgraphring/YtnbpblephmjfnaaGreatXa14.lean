/- The ring, plain. Conditions: none. -/
import Derived.Test.YtnbpblephmjfnaaGreatWj14
import Derived.Test.YtnbpblephmjfnaaGreatVe14
import Derived.Test.YtnbpblephmjfnaaGreatHy14
namespace Go.Proofs.YtnbpblephmjfnaaGreat
open Go.RowKit
set_option maxRecDepth 100000
def rgF (nx : Nat → Nat) : Nat → List Nat → Nat → List Nat
 | 0, _, _ => []
 | f + 1, W, p => if p ∈ W then W.drop (W.idxOf p) else rgF nx f (W ++ [p]) (nx p)
def nxE (ts : List Tk) (lf : List Bool) (p : Nat) : Nat := (ahV (prE ts ts.length ts.length) lf p).1.toNat
def lfS (ts : List Tk) : List Bool := (tkS ts.length (prE ts ts.length ts.length) ts.length [] (List.replicate ts.length true)).2
noncomputable def ringL (ts : List Tk) : List Nat := if deedsB ts = true then (match leftL ts with
 | [] => []
 | p :: _ => rgF (nxE ts (lfS ts)) (ts.length + 1) [] p) else []
theorem tkF_end (n : Nat) : ∀ (f : Nat) (R : Eds) (T L : List Nat), L.length ≤ f → ∀ x ∈ (tkF n f R T L).2.1, firstB (tkF n f R T L).2.2 n ((x : Nat) : Int) = false
 | 0, R, T, L, h, x, hx => by
  have : L = [] := List.length_eq_zero_iff.1 (by omega)
  subst this; cases hx
 | f + 1, R, T, L, h, x, hx => by
  unfold tkF at hx ⊢
  cases hf : L.findIdx? (fun x => firstB R n ((x : Nat) : Int)) with
  | none =>
   rw [hf] at hx
   rw [List.findIdx?_eq_none_iff] at hf
   simpa using hf x hx
  | some k =>
   rw [hf] at hx
   have hk := (List.findIdx?_eq_some_iff_getElem.1 hf).1
   exact tkF_end n f _ _ _ (by rw [List.length_append, List.length_take, List.length_drop]; omega) x hx
theorem least_same {R R' : Eds} (h : sameE R R') {n : Nat} {x r : Int} (q : leastP R n x r) : leastP R' n x r := by
 rcases q with ⟨e, q⟩ | ⟨k, e, hk, h1, h2⟩
 · exact .inl ⟨e, fun j hj z => q j hj ((h j x).2 z)⟩
 · exact .inr ⟨k, e, hk, (h k x).1 h1, fun j hj z => h2 j hj ((h j x).2 z)⟩
theorem nx_least {ts : List Tk} {R : Eds} {L : List Nat} {lf : List Bool} (h : InvT ts R L lf) {p : Nat} {r : Int} (hf : firstB R ts.length (p : Int) = false) (q : leastP R ts.length (p : Int) r) :
 r = ((nxE ts lf p : Nat) : Int) ∧ nxE ts lf p ∈ L ∧ (ahV (prE ts ts.length ts.length) lf p).1 = ((nxE ts lf p : Nat) : Int) := by
 have e1 := firstB_least q
 rcases q with ⟨rfl, q⟩ | ⟨k, rfl, hk, h1, h2⟩
 · rw [hf] at e1; cases e1
 · obtain ⟨g1, g2⟩ := (h.edg k _).1 h1
   obtain ⟨d', e, _, h3, h4⟩ := (edR_mem ts k _).1 g2
   have : p = d' := by omega
   subst this
   have hin : (k, p) ∈ prE ts ts.length ts.length := (prE_mem ts _ _ k p).2 ⟨hk, h3, h4⟩
   have htb : toB lf p (k, p) = true := by unfold toB; rw [((h.mem k).1 g1).2]; simp
   have key : ahV (prE ts ts.length ts.length) lf p = ((k : Int), true) := by
    unfold ahV
    cases hfd : (prE ts ts.length ts.length).find? (toB lf p) with
    | none =>
     rw [List.find?_eq_none] at hfd
     exact absurd htb (hfd _ hin)
    | some s =>
     have hs := List.find?_some hfd
     have hm := List.mem_of_find?_eq_some hfd
     rw [List.find?_eq_some_iff_getElem] at hfd
     obtain ⟨_, i, hi, hei, hno⟩ := hfd
     obtain ⟨s1, s2⟩ := s
     unfold toB at hs
     rw [Bool.and_eq_true, decide_eq_true_iff] at hs
     obtain ⟨rfl, hl⟩ := hs
     simp only at hl
     obtain ⟨m1, m2, m3⟩ := (prE_mem ts _ _ s1 s2).1 hm
     have hge : ¬ s1 < k := fun z => h2 s1 z ((h.edg s1 _).2 ⟨(h.mem s1).2 ⟨m1, hl⟩, (edR_mem ts s1 _).2 ⟨s2, rfl, m1, m2, m3⟩⟩)
     obtain ⟨j, hj, hej⟩ := List.getElem_of_mem hin
     have hle : s1 = k := by
      rcases Nat.lt_trichotomy j i with z | z | z
      · have := hno j z
        rw [hej, htb] at this; cases this
      · subst z
        rw [hei] at hej
        exact (Prod.mk.inj hej).1
      · have := List.pairwise_iff_getElem.1 (prE_asc ts ts.length ts.length) i j hi hj z
        rw [hei, hej] at this
        unfold ltP at this
        simp only at this
        omega
     rw [hle]
   unfold nxE
   rw [key]
   exact ⟨rfl, g1, rfl⟩
theorem inv_end (ts : List Tk) : ∃ R, sameE R (tkF ts.length ts.length (edR ts) [] (List.range ts.length)).2.2 ∧ InvT ts R (leftL ts) (lfS ts) ∧ ∀ x ∈ leftL ts, firstB R ts.length ((x : Nat) : Int) = false := by
 have h := tk_same (ts := ts) ts.length (T := []) (inv_start ts)
 refine ⟨_, fun q z => Iff.rfl, h.2.1, ?_⟩
 exact tkF_end ts.length ts.length (edR ts) [] (List.range ts.length) (by simp)
theorem rgF_in {nx : Nat → Nat} {f : Nat} {W : List Nat} {p : Nat} (h : p ∈ W) : rgF nx (f + 1) W p = W.drop (W.idxOf p) := by rw [rgF, if_pos h]
theorem rgF_on {nx : Nat → Nat} {f : Nat} {W : List Nat} {p : Nat} (h : p ∉ W) : rgF nx (f + 1) W p = rgF nx f (W ++ [p]) (nx p) := by rw [rgF, if_neg h]
def idxP (zs : List Int) (x r : Int) : Prop := (r = -1 ∧ ∀ j, j < zs.length → zs.getD j 0 ≠ x) ∨ ∃ k : Nat, r = (k : Int) ∧ k < zs.length ∧ zs.getD k 0 = x ∧ ∀ j, j < k → zs.getD j 0 ≠ x
theorem idx_of {W : List Nat} {p k : Nat} (hk : k < W.length) (h1 : (nI W).getD k 0 = (p : Int)) (h2 : ∀ j, j < k → (nI W).getD j 0 ≠ (p : Int)) : p ∈ W ∧ W.idxOf p = k := by
 have e1 : W[k] = p := by rw [nI_get hk] at h1; omega
 refine ⟨by rw [← e1]; exact List.getElem_mem hk, ?_⟩
 have hne : ∀ j (hj : j < k), W[j]'(by omega) ≠ p := fun j hj z => h2 j hj (by rw [nI_get (by omega), z])
 have hlt : W.idxOf p < W.length := List.idxOf_lt_length_iff.2 (by rw [← e1]; exact List.getElem_mem hk)
 have hg : W[W.idxOf p] = p := List.getElem_idxOf hlt
 rcases Nat.lt_trichotomy (W.idxOf p) k with z | z | z
 · exact absurd hg (hne _ z)
 · exact z
 · have := List.not_of_lt_findIdx (p := (· == p)) (xs := W) (i := k) (by exact z)
   simp [e1] at this
theorem idx_no {W : List Nat} {p : Nat} (h : ∀ j, j < W.length → (nI W).getD j 0 ≠ (p : Int)) : p ∉ W := fun z => by
 obtain ⟨j, hj, e⟩ := List.getElem_of_mem z
 exact h j hj (by rw [nI_get hj, e])
end Go.Proofs.YtnbpblephmjfnaaGreat
