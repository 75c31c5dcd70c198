/- The contracts of the laws' toTrackS, szTrackS, eqTrackS. Conditions: tracks of at most 2^21 bytes together. -/
import Derived.Test.YtecdnheopmojfaaGreatEe13
namespace Go.Proofs.YtecdnheopmojfaaGreat
open Go.RowKit
set_option maxRecDepth 100000
def sumT : List Tk → Nat
 | [] => 0
 | t :: ts => szT t + sumT ts
theorem sumT_app : ∀ a b : List Tk, sumT (a ++ b) = sumT a + sumT b
 | [], b => by simp [sumT]
 | t :: a, b => by simp [sumT, sumT_app a b]; omega
theorem take_snocT (ts : List Tk) (k : Nat) (h : k < ts.length) : ts.take (k + 1) = ts.take k ++ [ts.getD k tk0] := by
 rw [List.take_add_one, List.getElem?_eq_getElem h, Option.toList_some]
 simp [List.getD, h]
theorem sumT_step (ts : List Tk) (k : Nat) (h : k < ts.length) : sumT (ts.take (k + 1)) = sumT (ts.take k) + szT (ts.getD k tk0) := by
 rw [take_snocT ts k h, sumT_app]; simp [sumT]
theorem sumT_take (ts : List Tk) (k : Nat) : sumT (ts.take k) ≤ sumT ts := by
 have : sumT ts = sumT (ts.take k ++ ts.drop k) := by rw [List.take_append_drop]
 rw [this, sumT_app]; omega
theorem sumT_at (ts : List Tk) (k : Nat) (h : k < ts.length) : szT (ts.getD k tk0) ≤ sumT ts := by
 have h1 := sumT_step ts k h
 have h2 := sumT_take ts (k + 1)
 omega
structure BandsT (w : World) (lo hi : Nat) (ms : List Mt) (ts : List Tk) : Prop where
 len : ms.length = ts.length
 own : ∀ i, i < ts.length → OwnT1 w lo hi (ms.getD i mt0) (ts.getD i tk0)
 apart : ∀ i j, i < j → j < ts.length → ∀ b, blkT (ms.getD i mt0) b → ¬ blkT (ms.getD j mt0) b
section
variable {w w' : World} {lo hi : Nat} {ms : List Mt} {ts : List Tk}
theorem BandsT.nil (w : World) (lo hi : Nat) : BandsT w lo hi [] [] := ⟨rfl, (fun i h => by cases h), (fun i j _ h => by cases h)⟩
theorem BandsT.agree (h : BandsT w lo hi ms ts) (ha : Agree lo hi w w') : BandsT w' lo hi ms ts := ⟨h.len, (fun i hi => (h.own i hi).agree ha), h.apart⟩
theorem BandsT.mono {lo' hi' : Nat} (h : BandsT w lo hi ms ts) (hl : lo' ≤ lo) (hh : hi ≤ hi') : BandsT w lo' hi' ms ts := ⟨h.len, (fun i hi => (h.own i hi).mono hl hh), h.apart⟩
theorem BandsT.keep {X : Nat → Prop} (h : BandsT w lo hi ms ts) (g : Keeps X w w') (hne : ∀ i, i < ts.length → ∀ k, blkT (ms.getD i mt0) k → ¬ X k) : BandsT w' lo hi ms ts := ⟨h.len, (fun i hi => (h.own i hi).keep g (hne i hi)), h.apart⟩
theorem BandsT.snoc {mid : Nat} (h : BandsT w lo mid ms ts) {m : Mt} {t : Tk} (h1 : lo ≤ mid) (h2 : mid ≤ hi) (o : OwnT1 w mid hi m t) : BandsT w lo hi (ms ++ [m]) (ts ++ [t]) := by
 have e1 : ∀ i, i < ts.length → (ms ++ [m]).getD i mt0 = ms.getD i mt0 ∧ (ts ++ [t]).getD i tk0 = ts.getD i tk0 := fun i hi => ⟨by rw [getD_app, if_pos (by rw [h.len]; exact hi)], by rw [getD_app, if_pos hi]⟩
 have e2 : (ms ++ [m]).getD ts.length mt0 = m ∧ (ts ++ [t]).getD ts.length tk0 = t := ⟨by rw [getD_app, if_neg (by rw [h.len]; omega), h.len, Nat.sub_self]; rfl, by rw [getD_app, if_neg (by omega), Nat.sub_self]; rfl⟩
 refine ⟨by simp [h.len], fun i hi => ?_, fun i j hij hj b hb hc => ?_⟩
 · simp only [List.length_append, List.length_singleton] at hi
   by_cases hc : i < ts.length
   · rw [(e1 i hc).1, (e1 i hc).2]; exact (h.own i hc).mono (Nat.le_refl _) h2
   · obtain rfl : i = ts.length := by omega
     rw [e2.1, e2.2]; exact o.mono h1 (Nat.le_refl _)
 · simp only [List.length_append, List.length_singleton] at hj
   rw [(e1 i (by omega)).1] at hb
   by_cases hq : j < ts.length
   · rw [(e1 j hq).1] at hc
     exact h.apart i j hij hq b hb hc
   · obtain rfl : j = ts.length := by omega
     rw [e2.1] at hc
     have h3 := (h.own i (by omega)).inr hb
     have h4 := o.inr hc
     omega
end
def Tk.same (t u : Tk) : Prop := t.xid = u.xid ∧ t.begun = u.begun ∧ t.ended = u.ended ∧ t.all = u.all ∧ SameM (fl2 t.rs) (fl2 u.rs) ∧ SameM t.ws u.ws ∧ t.inn = u.inn ∧ t.out = u.out
def SameT (ts us : List Tk) : Prop := ts.length = us.length ∧ ∀ i, (ts.getD i tk0).same (us.getD i tk0)
theorem SameT.refl (ts : List Tk) : SameT ts ts := ⟨rfl, fun _ => ⟨rfl, rfl, rfl, rfl, SameM.refl _, SameM.refl _, rfl, rfl⟩⟩
theorem same_rs {a b : List (Im × Im)} (h : SameM (fl2 a) (fl2 b)) : b.length = a.length := by
 have := h.1
 rw [fl2_len, fl2_len] at this
 omega
end Go.Proofs.YtecdnheopmojfaaGreat