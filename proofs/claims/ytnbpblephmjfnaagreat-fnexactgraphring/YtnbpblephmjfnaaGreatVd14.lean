/- The edges by keys are the edges by pairs: plain. Conditions: the deeds are right. -/
import Derived.Test.YtnbpblephmjfnaaGreatVb14
import Derived.Test.YtnbpblephmjfnaaGreatVc14
import Derived.Test.YtnbpblephmjfnaaGreatHy14
namespace Go.Proofs.YtnbpblephmjfnaaGreat
open Go.RowKit
set_option maxRecDepth 100000
theorem mem_fold14 {f : Eds → Nat → Eds} {P : Nat → Nat → Int → Prop} (hf : ∀ R x q z, z ∈ f R x q ↔ z ∈ R q ∨ P x q z) : ∀ (W : List Nat) (R : Eds) (q : Nat) (z : Int), z ∈ (W.foldl f R) q ↔ z ∈ R q ∨ ∃ x, x ∈ W ∧ P x q z
 | [], R, q, z => by simp
 | x :: W, R, q, z => by
  rw [List.foldl_cons, mem_fold14 hf W, hf]
  simp only [List.mem_cons, exists_eq_or_imp, or_assoc]
theorem upd_mem (R : Eds) (p : Nat) (x : Int) (q : Nat) (z : Int) : z ∈ upd R p (R p ++ [x]) q ↔ z ∈ R q ∨ (q = p ∧ z = x) := by
 unfold upd
 by_cases e : q = p
 · subst e; rw [if_pos rfl]; simp
 · rw [if_neg e]; simp [e]
def pW (ts : List Tk) (p x q : Nat) (z : Int) : Prop := (ts.getD p tk0).ended < (ts.getD x tk0).ended ∧ q = p ∧ z = (x : Int)
def pR (ts : List Tk) (p r q : Nat) (z : Int) : Prop := ((ts.getD p tk0).ended < (ts.getD r tk0).begun ∧ q = p ∧ z = (r : Int)) ∨ (¬ (ts.getD p tk0).ended < (ts.getD r tk0).begun ∧ p ≠ r ∧ q = r ∧ z = (p : Int))
theorem stW_mem (ts : List Tk) (p : Nat) (R : Eds) (x q : Nat) (z : Int) : z ∈ stW ts p R x q ↔ z ∈ R q ∨ pW ts p x q z := by
 unfold stW pW
 generalize (ts.getD p tk0).ended = A
 generalize (ts.getD x tk0).ended = B
 split
 · rename_i h; rw [upd_mem]; simp [h]
 · rename_i h; simp [h]
theorem stR_mem (ts : List Tk) (p : Nat) (R : Eds) (r q : Nat) (z : Int) : z ∈ stR ts p R r q ↔ z ∈ R q ∨ pR ts p r q z := by
 unfold stR pR
 generalize (ts.getD p tk0).ended = A
 generalize (ts.getD r tk0).begun = B
 split
 · rename_i h; rw [upd_mem]; simp [h]
 · rename_i h
   split
   · rename_i k; rw [upd_mem]; simp [h, k]
   · rename_i k; simp [h, k]
theorem adW_mem (ts : List Tk) (W Rd : List Nat) (R : Eds) (p q : Nat) (z : Int) : z ∈ adW ts W Rd R p q ↔ z ∈ R q ∨ ((∃ x, x ∈ W ∧ pW ts p x q z) ∨ ∃ r, r ∈ Rd ∧ pR ts p r q z) := by
 unfold adW
 rw [mem_fold14 (stR_mem ts p), mem_fold14 (stW_mem ts p), or_assoc]
theorem stK_mem (ts : List Tk) (ks : List Im) (R : Eds) (i q : Nat) (z : Int) : z ∈ stK ts ks R i q ↔ z ∈ R q ∨ ∃ p, p ∈ useL ts ks ts.length (i * 2) ∧ ((∃ x, x ∈ useL ts ks ts.length (i * 2) ∧ pW ts p x q z) ∨ ∃ r, r ∈ useL ts ks ts.length (i * 2 + 1) ∧ pR ts p r q z) := by
 unfold stK adK
 rw [mem_fold14 (adW_mem ts _ _)]
theorem allE_mem (ts : List Tk) (ks : List Im) (m q : Nat) (z : Int) : z ∈ allE ts ks m q ↔ ∃ i, i < m ∧ ∃ p, p ∈ useL ts ks ts.length (i * 2) ∧ ((∃ x, x ∈ useL ts ks ts.length (i * 2) ∧ pW ts p x q z) ∨ ∃ r, r ∈ useL ts ks ts.length (i * 2 + 1) ∧ pR ts p r q z) := by
 unfold allE
 rw [mem_fold14 (stK_mem ts ks)]
 simp
theorem use_w (ts : List Tk) (ks : List Im) (i d : Nat) : d ∈ useL ts ks ts.length (i * 2) ↔ d < ts.length ∧ wrB (ts.getD d tk0) (ks.getD i im0) = true := by
 unfold useL useB
 rw [List.mem_filter, List.mem_range, if_pos (by omega), Nat.mul_div_cancel i (by omega)]
theorem use_r (ts : List Tk) (ks : List Im) (i d : Nat) : d ∈ useL ts ks ts.length (i * 2 + 1) ↔ d < ts.length ∧ rdB (ts.getD d tk0) (ks.getD i im0) = true := by
 unfold useL useB
 rw [List.mem_filter, List.mem_range, if_neg (by omega), show (i * 2 + 1) / 2 = i by omega]
theorem tm_at : ∀ (ts : List Tk) (k : Nat), k < ts.length → (tmL ts).getD (2 * k) 0 = (ts.getD k tk0).begun ∧ (tmL ts).getD (2 * k + 1) 0 = (ts.getD k tk0).ended
 | [], k, h => by simp at h
 | t :: ts, 0, _ => by simp [tmL]
 | t :: ts, k + 1, h => by
  have := tm_at ts k (by simpa using h)
  rw [show tmL (t :: ts) = t.begun :: t.ended :: tmL ts by simp [tmL], show 2 * (k + 1) = 2 * k + 1 + 1 by omega]
  simpa using this
theorem nodup_get14 {l : List Int} (h : l.Nodup) {i j : Nat} (hi : i < l.length) (hj : j < l.length) (e : l.getD i 0 = l.getD j 0) : i = j := by
 have ei : l.getD i 0 = l[i] := by simp [List.getD, hi]
 have ej : l.getD j 0 = l[j] := by simp [List.getD, hj]
 rw [ei, ej] at e
 have hp := List.pairwise_iff_getElem.1 h
 rcases Nat.lt_trichotomy i j with q | q | q
 · exact absurd e (hp i j hi hj q)
 · exact q
 · exact absurd e.symm (hp j i hj hi q)
theorem tm_ne {ts : List Tk} (h : okDs ts) {p r : Nat} (hp : p < ts.length) (hr : r < ts.length) (hne : p ≠ r) : (ts.getD p tk0).ended ≠ (ts.getD r tk0).begun ∧ (ts.getD p tk0).ended ≠ (ts.getD r tk0).ended := by
 have hl := tmL_len ts
 obtain ⟨a1, a2⟩ := tm_at ts p hp
 obtain ⟨b1, b2⟩ := tm_at ts r hr
 constructor
 · intro e
   have := nodup_get14 h.2.2 (i := 2 * p + 1) (j := 2 * r) (by omega) (by omega) (by rw [a2, b1]; exact e)
   omega
 · intro e
   have := nodup_get14 h.2.2 (i := 2 * p + 1) (j := 2 * r + 1) (by omega) (by omega) (by rw [a2, b2]; exact e)
   omega
theorem edgeB_iff (t u : Tk) : edgeB t u = true ↔ (∃ e, e ∈ t.ws ∧ ((t.ended < u.ended ∧ hasM u.ws e = true) ∨ (t.ended < u.begun ∧ rdB u e = true))) ∨ ∃ e, e ∈ u.ws ∧ t.begun < u.ended ∧ rdB t e = true := by
 unfold edgeB
 simp only [Bool.or_eq_true, List.any_eq_true, Bool.and_eq_true, decide_eq_true_eq]
 exact Iff.rfl
theorem getD_imV {ws : List Im} {k : Nat} (h : k < ws.length) : ws.getD k im0 ∈ ws := by
 rw [show ws.getD k im0 = ws[k] by simp [List.getD, h]]; exact List.getElem_mem h
theorem all_ed {ts : List Tk} {ks : List Im} (hok : okDs ts) (hk : KeysOf ts ks) (q : Nat) (z : Int) : z ∈ allE ts ks ks.length q ↔ ∃ j : Nat, z = (j : Int) ∧ q < ts.length ∧ j < ts.length ∧ edB ts q j = true := by
 have okt : ∀ d, d < ts.length → (∀ p ∈ (ts.getD d tk0).rs, spB p = true) ∧ ∀ x ∈ (ts.getD d tk0).ws, okM x = true := fun d hd => okDs_mem hok (getD_tk hd)
 have okk : ∀ i, i < ks.length → okM (ks.getD i im0) = true := fun i hi => hk.ok _ (getD_imV hi)
 have hwr : ∀ d, d < ts.length → ∀ x, okM x = true → (wrB (ts.getD d tk0) x = true ↔ ∃ e, e ∈ (ts.getD d tk0).ws ∧ cmpM e x = 0) := by
  intro d hd x hx
  rw [← hasM_wr (okt d hd).2 hx]
  unfold hasM
  simp
 have hrd : ∀ d, d < ts.length → ∀ x y, okM x = true → okM y = true → cmpM y x = 0 → rdB (ts.getD d tk0) x = rdB (ts.getD d tk0) y := fun d hd x y hx hy e => anyS_same (okt d hd).1 hx hy e
 have hws : ∀ d, d < ts.length → ∀ x y, okM x = true → okM y = true → cmpM y x = 0 → wrB (ts.getD d tk0) x = wrB (ts.getD d tk0) y := fun d hd x y hx hy e => anyS_same (dupM_ok (okt d hd).2) hx hy e
 have hself : ∀ d, d < ts.length → ∀ e, e ∈ (ts.getD d tk0).ws → wrB (ts.getD d tk0) e = true := fun d hd e he => (hwr d hd e ((okt d hd).2 e he)).2 ⟨e, he, cmpM_self ((okt d hd).2 e he)⟩
 rw [allE_mem]
 constructor
 · rintro ⟨i, hi, p, hp, H⟩
   obtain ⟨hpn, hpw⟩ := (use_w ts ks i p).1 hp
   obtain ⟨e, he, hc⟩ := (hwr p hpn _ (okk i hi)).1 hpw
   have oe := (okt p hpn).2 e he
   rcases H with ⟨x, hx, h1, rfl, rfl⟩ | ⟨r, hr, ⟨h1, rfl, rfl⟩ | ⟨h1, h2, rfl, rfl⟩⟩
   · obtain ⟨hxn, hxw⟩ := (use_w ts ks i x).1 hx
     refine ⟨x, rfl, hpn, hxn, ?_⟩
     unfold edB
     rw [Bool.and_eq_true, decide_eq_true_iff]
     refine ⟨fun z => by subst z; omega, (edgeB_iff _ _).2 (.inl ⟨e, he, .inl ⟨h1, ?_⟩⟩)⟩
     rw [hasM_wr (okt x hxn).2 oe, ← hws x hxn _ e (okk i hi) oe hc]; exact hxw
   · obtain ⟨hrn, hrw⟩ := (use_r ts ks i r).1 hr
     refine ⟨r, rfl, hpn, hrn, ?_⟩
     unfold edB
     rw [Bool.and_eq_true, decide_eq_true_iff]
     refine ⟨fun z => ?_, (edgeB_iff _ _).2 (.inl ⟨e, he, .inr ⟨h1, ?_⟩⟩)⟩
     · subst z
       have := (deedB_lt (hok.2.1 q hpn)).2
       omega
     · rw [← hrd r hrn _ e (okk i hi) oe hc]; exact hrw
   · obtain ⟨hrn, hrw⟩ := (use_r ts ks i q).1 hr
     refine ⟨p, rfl, hrn, hpn, ?_⟩
     unfold edB
     rw [Bool.and_eq_true, decide_eq_true_iff]
     refine ⟨fun z => h2 z.symm, (edgeB_iff _ _).2 (.inr ⟨e, he, ?_, ?_⟩)⟩
     · have := (tm_ne hok hpn hrn h2).1
       omega
     · rw [← hrd q hrn _ e (okk i hi) oe hc]; exact hrw
 · rintro ⟨j, rfl, hq, hj, he⟩
   unfold edB at he
   rw [Bool.and_eq_true, decide_eq_true_iff] at he
   obtain ⟨hne, he⟩ := he
   have key : ∀ d, d < ts.length → ∀ e, e ∈ (ts.getD d tk0).ws → ∃ i, i < ks.length ∧ okM e = true ∧ cmpM (ks.getD i im0) e = 0 := by
    intro d hd e hm
    obtain ⟨y, hy, hc⟩ := hk.cov _ (getD_tk hd) e hm
    obtain ⟨i, hi, rfl⟩ := List.getElem_of_mem hy
    exact ⟨i, hi, (okt d hd).2 e hm, by rw [show ks.getD i im0 = ks[i] by simp [List.getD, hi]]; exact hc⟩
   rcases (edgeB_iff _ _).1 he with ⟨e, hm, ⟨h1, h2⟩ | ⟨h1, h2⟩⟩ | ⟨e, hm, h1, h2⟩
   · obtain ⟨i, hi, oe, hc⟩ := key q hq e hm
     rw [hasM_wr (okt j hj).2 oe] at h2
     refine ⟨i, hi, q, (use_w ts ks i q).2 ⟨hq, ?_⟩, .inl ⟨j, (use_w ts ks i j).2 ⟨hj, ?_⟩, h1, rfl, rfl⟩⟩
     · rw [← hws q hq e _ oe (okk i hi) hc]; exact hself q hq e hm
     · rw [← hws j hj e _ oe (okk i hi) hc]; exact h2
   · obtain ⟨i, hi, oe, hc⟩ := key q hq e hm
     refine ⟨i, hi, q, (use_w ts ks i q).2 ⟨hq, ?_⟩, .inr ⟨j, (use_r ts ks i j).2 ⟨hj, ?_⟩, .inl ⟨h1, rfl, rfl⟩⟩⟩
     · rw [← hws q hq e _ oe (okk i hi) hc]; exact hself q hq e hm
     · rw [← hrd j hj e _ oe (okk i hi) hc]; exact h2
   · obtain ⟨i, hi, oe, hc⟩ := key j hj e hm
     have h3 := (deedB_lt (hok.2.1 q hq)).2
     refine ⟨i, hi, j, (use_w ts ks i j).2 ⟨hj, ?_⟩, .inr ⟨q, (use_r ts ks i q).2 ⟨hq, ?_⟩, .inr ⟨by omega, fun z => hne z.symm, rfl, rfl⟩⟩⟩
     · rw [← hws j hj e _ oe (okk i hi) hc]; exact hself j hj e hm
     · rw [← hrd q hq e _ oe (okk i hi) hc]; exact h2
theorem prE_mem (ts : List Tk) (n m i j : Nat) : (i, j) ∈ prE ts n m ↔ i < m ∧ j < n ∧ edB ts i j = true := by
 unfold prE rowE
 simp only [List.mem_flatMap, List.mem_map, List.mem_filter, List.mem_range]
 constructor
 · rintro ⟨i', hi, j', ⟨hj, he⟩, e⟩
   cases e
   exact ⟨hi, hj, he⟩
 · rintro ⟨hi, hj, he⟩
   exact ⟨i, hi, j, ⟨hj, he⟩, rfl⟩
end Go.Proofs.YtnbpblephmjfnaaGreat
