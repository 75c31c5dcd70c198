/- Texts of this proof in one: Hy14 Vd14 Wf14 Wj14 Wk14 Gb14 Gc14 Ge14 LaG3. -/
import Derived.Test.YtjcjoabblafboaaGreatHx14
import Derived.Test.YtjcjoabblafboaaGreatMgj
import Derived.Test.YtjcjoabblafboaaGreatMgh
import Derived.Test.YtjcjoabblafboaaGreatMgk
import Derived.Test.YtjcjoabblafboaaGreatMgd
import Derived.Test.YtjcjoabblafboaaGreatMgb
/- Serial orders, plain: what the specification looks at is what the order of turns says. No program; the deeds are right. -/

namespace Go.Proofs.YtjcjoabblafboaaGreat
open Go.RowKit
set_option maxRecDepth 100000
theorem hasM_wr {t : Tk} {x : Im} (h : ∀ y ∈ t.ws, okM y = true) (hx : okM x = true) : hasM t.ws x = wrB t x := by
 unfold hasM wrB anyS dupM
 rw [List.any_map, Bool.eq_iff_iff, List.any_eq_true, List.any_eq_true]
 have key : ∀ y ∈ t.ws, (decide (cmpM y x = 0) = true ↔ inM (y, y) x = true) := by
  intro y hy
  have oy := h y hy
  rw [inM_iff oy oy hx, decide_eq_true_iff, decide_eq_true_iff]
  have := cmpM_anti oy hx
  show cmpM y x = 0 ↔ cmpM y x ≤ 0 ∧ cmpM x y ≤ 0
  constructor
  · intro e; exact ⟨by omega, by omega⟩
  · rintro ⟨e1, e2⟩; omega
 exact ⟨fun ⟨y, hy, q⟩ => ⟨y, hy, (key y hy).1 q⟩, fun ⟨y, hy, q⟩ => ⟨y, hy, (key y hy).2 q⟩⟩
theorem bh_last {ts : List Tk} (hok : okDs ts) {x : Im} (hx : okM x = true) {d : Nat} (hd : d < ts.length) : ∀ k, k ≤ ts.length → bhL ts d x k = lastW (endsOf ts) (ts.getD d tk0).begun ((List.range k).filter (fun p => wrB (ts.getD p tk0) x))
 | 0, _ => rfl
 | k + 1, hk => by
  have ih := bh_last hok hx hd k (by omega)
  have hor := bhL_or ts d x k
  rw [bhL_succ, filter_snoc14]
  have hw := hasM_wr (t := ts.getD k tk0) (x := x) (okDs_mem hok (getD_tk (by omega))).2 hx
  unfold lastW at ih ⊢
  rw [List.foldl_append, ← ih]
  cases hwr : wrB (ts.getD k tk0) x with
  | false =>
   rw [if_neg (by simp)]
   unfold bhF
   rw [if_neg (fun z => by have := z.2.1; rw [hw, hwr] at this; cases this)]
   rfl
  | true =>
   rw [if_pos rfl]
   show _ = lwS (endsOf ts) (ts.getD d tk0).begun (bhL ts d x k) k
   unfold bhF lwS
   rw [ends_at (ts := ts) (i := k) (by omega)]
   have hdd : (ts.getD d tk0).begun < (ts.getD d tk0).ended := (deedB_lt (hok.2.1 d hd)).2
   rcases hor with e | ⟨q, e, hq⟩
   · rw [e]
     by_cases hc : (ts.getD k tk0).ended < (ts.getD d tk0).begun
     · rw [if_pos ⟨fun e => by subst e; omega, by rw [hw]; exact hwr, hc, .inl (by omega)⟩, if_pos ⟨hc, .inl rfl⟩]
     · rw [if_neg (fun z => hc z.2.2.1), if_neg (fun z => hc z.1)]
   · rw [e, Int.toNat_natCast, ends_at (ts := ts) (i := q) (by omega)]
     by_cases hc : (ts.getD k tk0).ended < (ts.getD d tk0).begun ∧ (ts.getD q tk0).ended < (ts.getD k tk0).ended
     · rw [if_pos ⟨fun e => by subst e; omega, by rw [hw]; exact hwr, hc.1, .inr hc.2⟩, if_pos ⟨hc.1, .inr hc.2⟩]
     · rw [if_neg (fun z => hc ⟨z.2.2.1, by rcases z.2.2.2 with z | z; omega; exact z⟩), if_neg (fun z => hc ⟨z.1, by rcases z.2 with z | z; omega; exact z⟩)]
theorem lastW_spec (Nm : List Int) (lim : Int) : ∀ (V : List Nat) (l : Int) (D : List Nat), (l = -1 ∧ (∀ p ∈ D, ¬ Nm.getD p 0 < lim) ∨ ∃ q : Nat, l = (q : Int) ∧ q ∈ D ∧ Nm.getD q 0 < lim ∧ ∀ p ∈ D, Nm.getD p 0 < lim → Nm.getD p 0 ≤ Nm.getD q 0) →
 (V.foldl (lwS Nm lim) l = -1 ∧ (∀ p ∈ D ++ V, ¬ Nm.getD p 0 < lim) ∨ ∃ q : Nat, V.foldl (lwS Nm lim) l = (q : Int) ∧ q ∈ D ++ V ∧ Nm.getD q 0 < lim ∧ ∀ p ∈ D ++ V, Nm.getD p 0 < lim → Nm.getD p 0 ≤ Nm.getD q 0)
 | [], l, D, h => by rw [List.append_nil]; exact h
 | v :: V, l, D, h => by
  have := lastW_spec Nm lim V (lwS Nm lim l v) (D ++ [v]) (by
   unfold lwS
   rcases h with ⟨e, h⟩ | ⟨q, e, hq, h1, h2⟩
   · by_cases hc : Nm.getD v 0 < lim
     · rw [if_pos ⟨hc, .inl e⟩]
       refine .inr ⟨v, rfl, by simp, hc, fun p hp hlt => ?_⟩
       rcases List.mem_append.1 hp with hp | hp
       · exact absurd hlt (h p hp)
       · obtain rfl : p = v := by simpa using hp
         omega
     · rw [if_neg (fun z => hc z.1)]
       refine .inl ⟨e, fun p hp => ?_⟩
       rcases List.mem_append.1 hp with hp | hp
       · exact h p hp
       · obtain rfl : p = v := by simpa using hp
         exact hc
   · subst e
     rw [Int.toNat_natCast]
     by_cases hc : Nm.getD v 0 < lim ∧ Nm.getD q 0 < Nm.getD v 0
     · rw [if_pos ⟨hc.1, .inr hc.2⟩]
       refine .inr ⟨v, rfl, by simp, hc.1, fun p hp hlt => ?_⟩
       rcases List.mem_append.1 hp with hp | hp
       · have := h2 p hp hlt; omega
       · obtain rfl : p = v := by simpa using hp
         omega
     · rw [if_neg (fun z => hc ⟨z.1, by rcases z.2 with z | z; omega; exact z⟩)]
       refine .inr ⟨q, rfl, by simp [hq], h1, fun p hp hlt => ?_⟩
       rcases List.mem_append.1 hp with hp | hp
       · exact h2 p hp hlt
       · obtain rfl : p = v := by simpa using hp
         by_cases z : Nm.getD q 0 < Nm.getD p 0
         · exact absurd ⟨hlt, z⟩ hc
         · omega)
  rw [List.append_assoc] at this
  exact this
def loF (ts : List Tk) (O : List Int) (x : Im) (last : Int) (j : Nat) : Int := if hasM (ts.getD (O.getD j 0).toNat tk0).ws x = true then O.getD j 0 else last
def loL (ts : List Tk) (O : List Int) (x : Im) (i : Nat) : Int := (List.range i).foldl (loF ts O x) (-1)
theorem loL_succ (ts : List Tk) (O : List Int) (x : Im) (i : Nat) : loL ts O x (i + 1) = loF ts O x (loL ts O x i) i := by
 unfold loL
 rw [List.range_succ, List.foldl_append]; rfl
theorem loL_spec (ts : List Tk) (O : List Int) (x : Im) : ∀ i, (loL ts O x i = -1 ∧ ∀ j, j < i → hasM (ts.getD (O.getD j 0).toNat tk0).ws x = false) ∨ ∃ j, j < i ∧ loL ts O x i = O.getD j 0 ∧ hasM (ts.getD (O.getD j 0).toNat tk0).ws x = true ∧ ∀ j', j < j' → j' < i → hasM (ts.getD (O.getD j' 0).toNat tk0).ws x = false
 | 0 => .inl ⟨rfl, fun j hj => by omega⟩
 | i + 1 => by
  rw [loL_succ]
  unfold loF
  cases hh : hasM (ts.getD (O.getD i 0).toNat tk0).ws x with
  | true =>
   rw [if_pos rfl]
   exact .inr ⟨i, by omega, rfl, hh, fun j' h1 h2 => by omega⟩
  | false =>
   rw [if_neg (by simp)]
   rcases loL_spec ts O x i with ⟨e, h⟩ | ⟨j, hj, e, h1, h2⟩
   · refine .inl ⟨e, fun j hj => ?_⟩
     by_cases q : j = i
     · subst q; exact hh
     · exact h j (by omega)
   · refine .inr ⟨j, by omega, e, h1, fun j' h3 h4 => ?_⟩
     by_cases q : j' = i
     · subst q; exact hh
     · exact h2 j' h3 (by omega)
theorem nodup_le : ∀ (n : Nat) (l : List Nat), l.Nodup → (∀ x ∈ l, x < n) → l.length ≤ n
 | 0, l, _, h => by
  cases l with
  | nil => simp
  | cons x r => exact absurd (h x (by simp)) (by omega)
 | n + 1, l, hd, h => by
  by_cases hn : n ∈ l
  · have := nodup_le n (l.erase n) (hd.erase n) (fun x hx => by
     have h1 := (hd.mem_erase_iff).1 hx
     have h2 := h x h1.2
     have h3 := h1.1
     omega)
    rw [List.length_erase_of_mem hn] at this
    have : 0 < l.length := List.length_pos_of_mem hn
    omega
  · have := nodup_le n l hd (fun x hx => by
     have h2 := h x hx
     have : x ≠ n := fun e => hn (e ▸ hx)
     omega)
    omega
section
variable {O : List Int} {n : Nat} (ho : isOrd O n)
include ho
theorem ord_at {j : Nat} (hj : j < n) : tI O (O.getD j 0) = (j : Int) := by
 have hl : j < O.length := by rw [ho.1]; exact hj
 have hg : O.getD j 0 = O[j] := by simp [List.getD, hl]
 have hnot := (ho.2 j hj).2
 have hsplit : O = O.take j ++ (O.getD j 0 :: O.drop (j + 1)) := by
  conv => lhs; rw [← List.take_append_drop j O, List.drop_eq_getElem_cons hl]
  rw [hg]
 unfold tI
 rw [if_pos (by rw [hg]; exact List.getElem_mem hl)]
 have : O.idxOf (O.getD j 0) = j := by
  conv => lhs; rw [hsplit]
  rw [show (O.take j ++ (O.getD j 0 :: O.drop (j + 1))).getD j 0 = O.getD j 0 by rw [← hsplit]]
  rw [List.idxOf_append, if_neg hnot, List.idxOf_cons_self, List.length_take]
  omega
 rw [this]
theorem ord_nat {j : Nat} (hj : j < n) : ∃ p : Nat, O.getD j 0 = (p : Int) ∧ p < n := by
 have := (ho.2 j hj).1
 exact ⟨(O.getD j 0).toNat, by omega, by omega⟩
theorem ord_inj {i j : Nat} (hi : i < n) (hj : j < n) (h : O.getD i 0 = O.getD j 0) : i = j := by
 have h1 := ord_at ho hi
 have h2 := ord_at ho hj
 rw [h] at h1
 omega
theorem ord_all {p : Nat} (hp : p < n) : ∃ j, j < n ∧ O.getD j 0 = (p : Int) := by
 have hinj : ((List.range n).map (fun j => (O.getD j 0).toNat)).Nodup := by
  rw [List.nodup_iff_pairwise_ne, List.pairwise_map]
  refine List.Pairwise.imp_of_mem (fun {a b} ha hb hab e => ?_) List.nodup_range
  obtain ⟨q1, e1, _⟩ := ord_nat ho (List.mem_range.1 ha)
  obtain ⟨q2, e2, _⟩ := ord_nat ho (List.mem_range.1 hb)
  have e' : (O.getD a 0).toNat = (O.getD b 0).toNat := e
  rw [e1, e2, Int.toNat_natCast, Int.toNat_natCast] at e'
  exact hab (ord_inj ho (List.mem_range.1 ha) (List.mem_range.1 hb) (by rw [e1, e2, e']))
 have hsub : ((List.range n).map (fun j => (O.getD j 0).toNat)) ⊆ List.range n := by
  intro q hq
  obtain ⟨j, hj, rfl⟩ := List.mem_map.1 hq
  obtain ⟨q1, e1, h1⟩ := ord_nat ho (List.mem_range.1 hj)
  rw [e1, Int.toNat_natCast, List.mem_range]; exact h1
 have hmem : p ∈ (List.range n).map (fun j => (O.getD j 0).toNat) := by
  by_cases q : p ∈ (List.range n).map (fun j => (O.getD j 0).toNat)
  · exact q
  · have := nodup_le n (p :: (List.range n).map (fun j => (O.getD j 0).toNat)) (List.nodup_cons.2 ⟨q, hinj⟩) (fun x hx => by
     rcases List.mem_cons.1 hx with rfl | hx
     · exact hp
     · exact List.mem_range.1 (hsub hx))
    rw [List.length_cons, List.length_map, List.length_range] at this
    omega
 obtain ⟨j, hj, e⟩ := List.mem_map.1 hmem
 obtain ⟨q1, e1, _⟩ := ord_nat ho (List.mem_range.1 hj)
 rw [e1, Int.toNat_natCast] at e
 exact ⟨j, List.mem_range.1 hj, by rw [e1, e]⟩
end
theorem lo_last {ts : List Tk} (hok : okDs ts) {O : List Int} (ho : isOrd O ts.length) {x : Im} (hx : okM x = true) {i d : Nat} (hi : i < ts.length) (hd : O.getD i 0 = (d : Int)) : loL ts O x i = lastW (trn O ts.length) (tI O (d : Int)) (wrsOf ts x) := by
 have hti : tI O (d : Int) = (i : Int) := by rw [← hd]; exact ord_at ho hi
 rw [hti]
 have hL := lastW_spec (trn O ts.length) (i : Int) (wrsOf ts x) (-1) [] (.inl ⟨rfl, fun p hp => by cases hp⟩)
 rw [List.nil_append] at hL
 have hwl : ∀ p, p ∈ wrsOf ts x ↔ p < ts.length ∧ hasM (ts.getD p tk0).ws x = true := by
  intro p
  unfold wrsOf
  rw [List.mem_filter, List.mem_range]
  constructor
  · rintro ⟨h1, h2⟩; exact ⟨h1, by rw [hasM_wr (okDs_mem hok (getD_tk h1)).2 hx]; exact h2⟩
  · rintro ⟨h1, h2⟩; exact ⟨h1, by rw [← hasM_wr (okDs_mem hok (getD_tk h1)).2 hx]; exact h2⟩
 have hturn : ∀ j p, j < ts.length → O.getD j 0 = ((p : Nat) : Int) → p < ts.length → (trn O ts.length).getD p 0 = (j : Int) := by
  intro j p hj e hp
  rw [trn_at O hp, ← e]; exact ord_at ho hj
 rcases loL_spec ts O x i with ⟨e, h⟩ | ⟨j, hj, e, h1, h2⟩
 · rw [e]
   rcases hL with ⟨e2, _⟩ | ⟨q, e2, hq, hlt, _⟩
   · exact e2.symm
   · exfalso
     obtain ⟨hq1, hq2⟩ := (hwl q).1 hq
     obtain ⟨j, hj, hjq⟩ := ord_all ho hq1
     have := hturn j q hj hjq hq1
     rw [this] at hlt
     have := h j (by omega)
     rw [hjq, Int.toNat_natCast, hq2] at this
     cases this
 · rw [e]
   obtain ⟨p, hp, hpn⟩ := ord_nat ho (show j < ts.length by omega)
   have htp := hturn j p (by omega) hp hpn
   have hpw : p ∈ wrsOf ts x := (hwl p).2 ⟨hpn, by rw [hp, Int.toNat_natCast] at h1; exact h1⟩
   rcases hL with ⟨_, h3⟩ | ⟨q, e2, hq, hlt, hmx⟩
   · exact absurd (by rw [htp]; omega) (h3 p hpw)
   · obtain ⟨hq1, hq2⟩ := (hwl q).1 hq
     obtain ⟨j', hj', hjq⟩ := ord_all ho hq1
     have htq := hturn j' q hj' hjq hq1
     have hm := hmx p hpw (by rw [htp]; omega)
     rw [htp, htq] at hm
     rw [htq] at hlt
     by_cases q : j = j'
     · subst q
       show O.getD j 0 = _
       rw [hjq]; exact e2.symm
     · have := h2 j' (by omega) (by omega)
       rw [hjq, Int.toNat_natCast, hq2] at this
       cases this
end Go.Proofs.YtjcjoabblafboaaGreat
/- The edges by keys are the edges by pairs: plain. Conditions: the deeds are right. -/



namespace Go.Proofs.YtjcjoabblafboaaGreat
open Go.RowKit
set_option maxRecDepth 100000
theorem mem_fold14 {f : Eds → Nat → Eds} {P : Nat → Nat → Int → Prop} (hf : ∀ R x q z, z ∈ f R x q ↔ z ∈ R q ∨ P x q z) : ∀ (W : List Nat) (R : Eds) (q : Nat) (z : Int), z ∈ (W.foldl f R) q ↔ z ∈ R q ∨ ∃ x, x ∈ W ∧ P x q z
 | [], R, q, z => by simp
 | x :: W, R, q, z => by
  rw [List.foldl_cons, mem_fold14 hf W, hf]
  simp only [List.mem_cons, exists_eq_or_imp, or_assoc]
theorem upd_mem (R : Eds) (p : Nat) (x : Int) (q : Nat) (z : Int) : z ∈ upd R p (R p ++ [x]) q ↔ z ∈ R q ∨ (q = p ∧ z = x) := by
 unfold upd
 by_cases e : q = p
 · subst e; rw [if_pos rfl]; simp
 · rw [if_neg e]; simp [e]
def pW (ts : List Tk) (p x q : Nat) (z : Int) : Prop := (ts.getD p tk0).ended < (ts.getD x tk0).ended ∧ q = p ∧ z = (x : Int)
def pR (ts : List Tk) (p r q : Nat) (z : Int) : Prop := ((ts.getD p tk0).ended < (ts.getD r tk0).begun ∧ q = p ∧ z = (r : Int)) ∨ (¬ (ts.getD p tk0).ended < (ts.getD r tk0).begun ∧ p ≠ r ∧ q = r ∧ z = (p : Int))
theorem stW_mem (ts : List Tk) (p : Nat) (R : Eds) (x q : Nat) (z : Int) : z ∈ stW ts p R x q ↔ z ∈ R q ∨ pW ts p x q z := by
 unfold stW pW
 generalize (ts.getD p tk0).ended = A
 generalize (ts.getD x tk0).ended = B
 split
 · rename_i h; rw [upd_mem]; simp [h]
 · rename_i h; simp [h]
theorem stR_mem (ts : List Tk) (p : Nat) (R : Eds) (r q : Nat) (z : Int) : z ∈ stR ts p R r q ↔ z ∈ R q ∨ pR ts p r q z := by
 unfold stR pR
 generalize (ts.getD p tk0).ended = A
 generalize (ts.getD r tk0).begun = B
 split
 · rename_i h; rw [upd_mem]; simp [h]
 · rename_i h
   split
   · rename_i k; rw [upd_mem]; simp [h, k]
   · rename_i k; simp [h, k]
theorem adW_mem (ts : List Tk) (W Rd : List Nat) (R : Eds) (p q : Nat) (z : Int) : z ∈ adW ts W Rd R p q ↔ z ∈ R q ∨ ((∃ x, x ∈ W ∧ pW ts p x q z) ∨ ∃ r, r ∈ Rd ∧ pR ts p r q z) := by
 unfold adW
 rw [mem_fold14 (stR_mem ts p), mem_fold14 (stW_mem ts p), or_assoc]
theorem stK_mem (ts : List Tk) (ks : List Im) (R : Eds) (i q : Nat) (z : Int) : z ∈ stK ts ks R i q ↔ z ∈ R q ∨ ∃ p, p ∈ useL ts ks ts.length (i * 2) ∧ ((∃ x, x ∈ useL ts ks ts.length (i * 2) ∧ pW ts p x q z) ∨ ∃ r, r ∈ useL ts ks ts.length (i * 2 + 1) ∧ pR ts p r q z) := by
 unfold stK adK
 rw [mem_fold14 (adW_mem ts _ _)]
theorem allE_mem (ts : List Tk) (ks : List Im) (m q : Nat) (z : Int) : z ∈ allE ts ks m q ↔ ∃ i, i < m ∧ ∃ p, p ∈ useL ts ks ts.length (i * 2) ∧ ((∃ x, x ∈ useL ts ks ts.length (i * 2) ∧ pW ts p x q z) ∨ ∃ r, r ∈ useL ts ks ts.length (i * 2 + 1) ∧ pR ts p r q z) := by
 unfold allE
 rw [mem_fold14 (stK_mem ts ks)]
 simp
theorem use_w (ts : List Tk) (ks : List Im) (i d : Nat) : d ∈ useL ts ks ts.length (i * 2) ↔ d < ts.length ∧ wrB (ts.getD d tk0) (ks.getD i im0) = true := by
 unfold useL useB
 rw [List.mem_filter, List.mem_range, if_pos (by omega), Nat.mul_div_cancel i (by omega)]
theorem use_r (ts : List Tk) (ks : List Im) (i d : Nat) : d ∈ useL ts ks ts.length (i * 2 + 1) ↔ d < ts.length ∧ rdB (ts.getD d tk0) (ks.getD i im0) = true := by
 unfold useL useB
 rw [List.mem_filter, List.mem_range, if_neg (by omega), show (i * 2 + 1) / 2 = i by omega]
theorem tm_at : ∀ (ts : List Tk) (k : Nat), k < ts.length → (tmL ts).getD (2 * k) 0 = (ts.getD k tk0).begun ∧ (tmL ts).getD (2 * k + 1) 0 = (ts.getD k tk0).ended
 | [], k, h => by simp at h
 | t :: ts, 0, _ => by simp [tmL]
 | t :: ts, k + 1, h => by
  have := tm_at ts k (by simpa using h)
  rw [show tmL (t :: ts) = t.begun :: t.ended :: tmL ts by simp [tmL], show 2 * (k + 1) = 2 * k + 1 + 1 by omega]
  simpa using this
theorem nodup_get14 {l : List Int} (h : l.Nodup) {i j : Nat} (hi : i < l.length) (hj : j < l.length) (e : l.getD i 0 = l.getD j 0) : i = j := by
 have ei : l.getD i 0 = l[i] := by simp [List.getD, hi]
 have ej : l.getD j 0 = l[j] := by simp [List.getD, hj]
 rw [ei, ej] at e
 have hp := List.pairwise_iff_getElem.1 h
 rcases Nat.lt_trichotomy i j with q | q | q
 · exact absurd e (hp i j hi hj q)
 · exact q
 · exact absurd e.symm (hp j i hj hi q)
theorem tm_ne {ts : List Tk} (h : okDs ts) {p r : Nat} (hp : p < ts.length) (hr : r < ts.length) (hne : p ≠ r) : (ts.getD p tk0).ended ≠ (ts.getD r tk0).begun ∧ (ts.getD p tk0).ended ≠ (ts.getD r tk0).ended := by
 have hl := tmL_len ts
 obtain ⟨a1, a2⟩ := tm_at ts p hp
 obtain ⟨b1, b2⟩ := tm_at ts r hr
 constructor
 · intro e
   have := nodup_get14 h.2.2 (i := 2 * p + 1) (j := 2 * r) (by omega) (by omega) (by rw [a2, b1]; exact e)
   omega
 · intro e
   have := nodup_get14 h.2.2 (i := 2 * p + 1) (j := 2 * r + 1) (by omega) (by omega) (by rw [a2, b2]; exact e)
   omega
theorem edgeB_iff (t u : Tk) : edgeB t u = true ↔ (∃ e, e ∈ t.ws ∧ ((t.ended < u.ended ∧ hasM u.ws e = true) ∨ (t.ended < u.begun ∧ rdB u e = true))) ∨ ∃ e, e ∈ u.ws ∧ t.begun < u.ended ∧ rdB t e = true := by
 unfold edgeB
 simp only [Bool.or_eq_true, List.any_eq_true, Bool.and_eq_true, decide_eq_true_eq]
 exact Iff.rfl
theorem getD_imV {ws : List Im} {k : Nat} (h : k < ws.length) : ws.getD k im0 ∈ ws := by
 rw [show ws.getD k im0 = ws[k] by simp [List.getD, h]]; exact List.getElem_mem h
theorem all_ed {ts : List Tk} {ks : List Im} (hok : okDs ts) (hk : KeysOf ts ks) (q : Nat) (z : Int) : z ∈ allE ts ks ks.length q ↔ ∃ j : Nat, z = (j : Int) ∧ q < ts.length ∧ j < ts.length ∧ edB ts q j = true := by
 have okt : ∀ d, d < ts.length → (∀ p ∈ (ts.getD d tk0).rs, spB p = true) ∧ ∀ x ∈ (ts.getD d tk0).ws, okM x = true := fun d hd => okDs_mem hok (getD_tk hd)
 have okk : ∀ i, i < ks.length → okM (ks.getD i im0) = true := fun i hi => hk.ok _ (getD_imV hi)
 have hwr : ∀ d, d < ts.length → ∀ x, okM x = true → (wrB (ts.getD d tk0) x = true ↔ ∃ e, e ∈ (ts.getD d tk0).ws ∧ cmpM e x = 0) := by
  intro d hd x hx
  rw [← hasM_wr (okt d hd).2 hx]
  unfold hasM
  simp
 have hrd : ∀ d, d < ts.length → ∀ x y, okM x = true → okM y = true → cmpM y x = 0 → rdB (ts.getD d tk0) x = rdB (ts.getD d tk0) y := fun d hd x y hx hy e => anyS_same (okt d hd).1 hx hy e
 have hws : ∀ d, d < ts.length → ∀ x y, okM x = true → okM y = true → cmpM y x = 0 → wrB (ts.getD d tk0) x = wrB (ts.getD d tk0) y := fun d hd x y hx hy e => anyS_same (dupM_ok (okt d hd).2) hx hy e
 have hself : ∀ d, d < ts.length → ∀ e, e ∈ (ts.getD d tk0).ws → wrB (ts.getD d tk0) e = true := fun d hd e he => (hwr d hd e ((okt d hd).2 e he)).2 ⟨e, he, cmpM_self ((okt d hd).2 e he)⟩
 rw [allE_mem]
 constructor
 · rintro ⟨i, hi, p, hp, H⟩
   obtain ⟨hpn, hpw⟩ := (use_w ts ks i p).1 hp
   obtain ⟨e, he, hc⟩ := (hwr p hpn _ (okk i hi)).1 hpw
   have oe := (okt p hpn).2 e he
   rcases H with ⟨x, hx, h1, rfl, rfl⟩ | ⟨r, hr, ⟨h1, rfl, rfl⟩ | ⟨h1, h2, rfl, rfl⟩⟩
   · obtain ⟨hxn, hxw⟩ := (use_w ts ks i x).1 hx
     refine ⟨x, rfl, hpn, hxn, ?_⟩
     unfold edB
     rw [Bool.and_eq_true, decide_eq_true_iff]
     refine ⟨fun z => by subst z; omega, (edgeB_iff _ _).2 (.inl ⟨e, he, .inl ⟨h1, ?_⟩⟩)⟩
     rw [hasM_wr (okt x hxn).2 oe, ← hws x hxn _ e (okk i hi) oe hc]; exact hxw
   · obtain ⟨hrn, hrw⟩ := (use_r ts ks i r).1 hr
     refine ⟨r, rfl, hpn, hrn, ?_⟩
     unfold edB
     rw [Bool.and_eq_true, decide_eq_true_iff]
     refine ⟨fun z => ?_, (edgeB_iff _ _).2 (.inl ⟨e, he, .inr ⟨h1, ?_⟩⟩)⟩
     · subst z
       have := (deedB_lt (hok.2.1 q hpn)).2
       omega
     · rw [← hrd r hrn _ e (okk i hi) oe hc]; exact hrw
   · obtain ⟨hrn, hrw⟩ := (use_r ts ks i q).1 hr
     refine ⟨p, rfl, hrn, hpn, ?_⟩
     unfold edB
     rw [Bool.and_eq_true, decide_eq_true_iff]
     refine ⟨fun z => h2 z.symm, (edgeB_iff _ _).2 (.inr ⟨e, he, ?_, ?_⟩)⟩
     · have := (tm_ne hok hpn hrn h2).1
       omega
     · rw [← hrd q hrn _ e (okk i hi) oe hc]; exact hrw
 · rintro ⟨j, rfl, hq, hj, he⟩
   unfold edB at he
   rw [Bool.and_eq_true, decide_eq_true_iff] at he
   obtain ⟨hne, he⟩ := he
   have key : ∀ d, d < ts.length → ∀ e, e ∈ (ts.getD d tk0).ws → ∃ i, i < ks.length ∧ okM e = true ∧ cmpM (ks.getD i im0) e = 0 := by
    intro d hd e hm
    obtain ⟨y, hy, hc⟩ := hk.cov _ (getD_tk hd) e hm
    obtain ⟨i, hi, rfl⟩ := List.getElem_of_mem hy
    exact ⟨i, hi, (okt d hd).2 e hm, by rw [show ks.getD i im0 = ks[i] by simp [List.getD, hi]]; exact hc⟩
   rcases (edgeB_iff _ _).1 he with ⟨e, hm, ⟨h1, h2⟩ | ⟨h1, h2⟩⟩ | ⟨e, hm, h1, h2⟩
   · obtain ⟨i, hi, oe, hc⟩ := key q hq e hm
     rw [hasM_wr (okt j hj).2 oe] at h2
     refine ⟨i, hi, q, (use_w ts ks i q).2 ⟨hq, ?_⟩, .inl ⟨j, (use_w ts ks i j).2 ⟨hj, ?_⟩, h1, rfl, rfl⟩⟩
     · rw [← hws q hq e _ oe (okk i hi) hc]; exact hself q hq e hm
     · rw [← hws j hj e _ oe (okk i hi) hc]; exact h2
   · obtain ⟨i, hi, oe, hc⟩ := key q hq e hm
     refine ⟨i, hi, q, (use_w ts ks i q).2 ⟨hq, ?_⟩, .inr ⟨j, (use_r ts ks i j).2 ⟨hj, ?_⟩, .inl ⟨h1, rfl, rfl⟩⟩⟩
     · rw [← hws q hq e _ oe (okk i hi) hc]; exact hself q hq e hm
     · rw [← hrd j hj e _ oe (okk i hi) hc]; exact h2
   · obtain ⟨i, hi, oe, hc⟩ := key j hj e hm
     have h3 := (deedB_lt (hok.2.1 q hq)).2
     refine ⟨i, hi, j, (use_w ts ks i j).2 ⟨hj, ?_⟩, .inr ⟨q, (use_r ts ks i q).2 ⟨hq, ?_⟩, .inr ⟨by omega, fun z => hne z.symm, rfl, rfl⟩⟩⟩
     · rw [← hws j hj e _ oe (okk i hi) hc]; exact hself j hj e hm
     · rw [← hrd q hq e _ oe (okk i hi) hc]; exact h2
theorem prE_mem (ts : List Tk) (n m i j : Nat) : (i, j) ∈ prE ts n m ↔ i < m ∧ j < n ∧ edB ts i j = true := by
 unfold prE rowE
 simp only [List.mem_flatMap, List.mem_map, List.mem_filter, List.mem_range]
 constructor
 · rintro ⟨i', hi, j', ⟨hj, he⟩, e⟩
   cases e
   exact ⟨hi, hj, he⟩
 · rintro ⟨hi, hj, he⟩
   exact ⟨i, hi, j, ⟨hj, he⟩, rfl⟩
end Go.Proofs.YtjcjoabblafboaaGreat
/- The order, plain, and the contract of the program's GraphOrder. Conditions: texts of at most 2^21 bytes. -/



namespace Go.Proofs.YtjcjoabblafboaaGreat
open Go.RowKit
set_option maxRecDepth 100000
def edR (ts : List Tk) : Eds := fun i => if i < ts.length then nI ((List.range ts.length).filter (edB ts i)) else []
theorem edR_mem (ts : List Tk) (q : Nat) (z : Int) : z ∈ edR ts q ↔ ∃ j : Nat, z = (j : Int) ∧ q < ts.length ∧ j < ts.length ∧ edB ts q j = true := by
 unfold edR
 by_cases h : q < ts.length
 · rw [if_pos h]
   unfold nI
   simp only [List.mem_map, List.mem_filter, List.mem_range]
   constructor
   · rintro ⟨j, ⟨h1, h2⟩, rfl⟩; exact ⟨j, rfl, h, h1, h2⟩
   · rintro ⟨j, rfl, _, h1, h2⟩; exact ⟨j, ⟨h1, h2⟩, rfl⟩
 · rw [if_neg h]
   constructor
   · intro q; cases q
   · rintro ⟨j, _, h1, _⟩; exact absurd h1 h
def sameE (R R' : Eds) : Prop := ∀ q z, z ∈ R q ↔ z ∈ R' q
theorem firstB_same {R R' : Eds} (h : sameE R R') (n : Nat) (x : Int) : firstB R n x = firstB R' n x := by
 unfold firstB
 rw [decide_eq_decide]
 constructor
 · intro q j hj z; exact q j hj ((h j x).2 z)
 · intro q j hj z; exact q j hj ((h j x).1 z)
theorem upd_same14 {R R' : Eds} (h : sameE R R') (x : Nat) : sameE (upd R x []) (upd R' x []) := by
 intro q z
 by_cases e : q = x
 · subst e; rw [upd_same, upd_same]
 · rw [upd_other _ _ e, upd_other _ _ e]; exact h q z
theorem tkF_same (n : Nat) : ∀ (f : Nat) {R R' : Eds}, sameE R R' → ∀ (T L : List Nat), (tkF n f R T L).1 = (tkF n f R' T L).1 ∧ (tkF n f R T L).2.1 = (tkF n f R' T L).2.1 ∧ sameE (tkF n f R T L).2.2 (tkF n f R' T L).2.2
 | 0, R, R', h, T, L => ⟨rfl, rfl, h⟩
 | f + 1, R, R', h, T, L => by
  have e : (fun x : Nat => firstB R n ((x : Nat) : Int)) = (fun x : Nat => firstB R' n ((x : Nat) : Int)) := by
   funext x; exact firstB_same h n _
  unfold tkF
  rw [e]
  cases L.findIdx? (fun x : Nat => firstB R' n ((x : Nat) : Int)) with
  | none => exact ⟨rfl, rfl, h⟩
  | some k => exact tkF_same n f (upd_same14 h _) _ _
noncomputable def takenL (ts : List Tk) : List Nat := (tkF ts.length ts.length (edR ts) [] (List.range ts.length)).1
noncomputable def leftL (ts : List Tk) : List Nat := (tkF ts.length ts.length (edR ts) [] (List.range ts.length)).2.1
open Classical in
noncomputable def ordOk (ts : List Tk) : Bool := decide (deedsB ts = true ∧ leftL ts = [])
noncomputable def ordL (ts : List Tk) : List Nat := if ordOk ts = true then takenL ts else []
set_option maxHeartbeats 6400000 in
theorem impl_GraphOrder {a : Option Addr} {n : Nat} (c : Nat) {ts : List Tk} {w : World} (h : RdV w a ts) (hv : ReadsV w a ts) (hl : ts.length = n) (hsm : smT ts) (hbd : bdTs ts) :
 Calls Tryz.prog 11 #[.slice a n c] w fun e w' => ∃ g cg, e = .returned (.tuple #[.slice g (ordL ts).length cg, .bool (ordOk ts)]) ∧ w'.ownsRow w.heap.size 3 1 (.slice g (ordL ts).length cg) (ordL ts).length (ins (nI (ordL ts))) ∧ Below w.heap.size w w' := by
 obtain ⟨V, hV⟩ : ∃ V, ordL ts = V := ⟨_, rfl⟩
 obtain ⟨K, hK⟩ : ∃ K, ordOk ts = K := ⟨_, rfl⟩
 rw [hV, hK]
 have HVV := hid hV
 have HKK := hid hK
 have HL := hid hl
 have HR := hid h
 have HNo := hid (fun (q : ¬ (deedsB ts = true ∧ leftL ts = [])) => show V = [] ∧ K = false by
  have e : ordOk ts = false := by unfold ordOk; rw [decide_eq_false q]
  exact ⟨by rw [← hV]; unfold ordL; rw [e]; rfl, by rw [← hK]; exact e⟩)
 have HYe := hid (fun (q : deedsB ts = true ∧ leftL ts = []) => show V = takenL ts ∧ K = true by
  have e : ordOk ts = true := by unfold ordOk; rw [decide_eq_true q]
  exact ⟨by rw [← hV]; unfold ordL; rw [if_pos e], by rw [← hK]; exact e⟩)
 clear hV hK h
 go_enter Tryz.func11, Tryz.ntmps11
 go_wp2_with fail
 refine (impl_DeedsOk c hv hl hsm hbd).mono ?_
 rintro e w1 ⟨rfl, b1⟩
 have B1 := hid b1
 replace HR := hid (HR.out.below b1 (Nat.le_refl _))
 clear b1 hl hsm hbd hv
 cases hdb : deedsB ts with
 | false =>
  have HF := hid (HNo.out (fun z => by rw [hdb] at z; cases z.1))
  clear hdb
  go_wp2_with fail
  go_ret2
  rw [HF.out.1, HF.out.2]
  exact ⟨none, 0, rfl, World.ownsRow_nil _ _ _ _, B1.out⟩
 | true =>
 have HDb := hid hdb
 have HOk := hid (deedsB_ok hdb)
 have hn : n ≤ 100 := by have := HOk.out.1; have := HL.out; omega
 clear hdb
 go_wp2_with fail
 refine (impl_edgesOf c HR.out HL.out HOk.out).mono ?_
 rintro e w2 ⟨g, M, ks, rfl, hk, hE, b2⟩
 have B2 := hid b2
 have HSame := hid (show sameE (allE ts ks ks.length) (edR ts) from fun q z => by rw [all_ed HOk.out hk, edR_mem])
 have HE := hid hE
 have HZ2 := hid b2.size
 clear hk b2 hE
 go_wp2_with fail
 refine (impl_takeAll HE.out hn HZ2.out).mono ?_
 rintro e w3 ⟨a3, c3, a4, c4, T, L, R', htk, rfl, oT, oL, -, b3⟩
 have hs := tkF_same n n HSame.out [] (List.range n)
 rw [htk] at hs
 have HT := hid (show T = takenL ts by have := hs.1; unfold takenL; rw [HL.out]; exact this)
 have HLf := hid (show L = leftL ts by have := hs.2.1; unfold leftL; rw [HL.out]; exact this)
 have B3 := hid (B1.out.trans ((B2.out.trans b3).mono B1.out.size))
 have OT := hid (owns_lower oT (Nat.le_trans B1.out.size HZ2.out))
 clear htk oT oL b3 hs HE HSame
 by_cases hL : L.length = 0
 · have hq : ¬ (0 : Int) < (L.length : Int) := by omega
   have HF := hid (HYe.out ⟨HDb.out, by rw [← HLf.out]; exact List.length_eq_zero_iff.1 hL⟩)
   clear hL
   go_wp2_with fail
   go_ret2
   rw [HF.out.1, HF.out.2, ← HT.out]
   exact ⟨a3, c3, rfl, OT.out, B3.out⟩
 · have hq : (0 : Int) < (L.length : Int) := by omega
   have HF := hid (HNo.out (fun z => hL (by rw [HLf.out, z.2]; rfl)))
   clear hL
   go_wp2_with fail
   go_ret2
   rw [HF.out.1, HF.out.2]
   exact ⟨none, 0, rfl, World.ownsRow_nil _ _ _ _, B3.out⟩
end Go.Proofs.YtjcjoabblafboaaGreat
/- Both take the same: plain. Conditions: none. -/


namespace Go.Proofs.YtjcjoabblafboaaGreat
open Go.RowKit
set_option maxRecDepth 100000
structure InvT (ts : List Tk) (R : Eds) (L : List Nat) (lf : List Bool) : Prop where
 len : lf.length = ts.length
 asc : L.Pairwise (· < ·)
 mem : ∀ x, x ∈ L ↔ x < ts.length ∧ lf.getD x false = true
 edg : ∀ q z, z ∈ R q ↔ q ∈ L ∧ z ∈ edR ts q
theorem ah_iff (E : List Pr) (lf : List Bool) (d : Nat) : (ahV E lf d).2 = true ↔ ∃ p, p ∈ E ∧ p.2 = d ∧ lf.getD p.1 false = true := by
 unfold ahV
 cases h : E.find? (toB lf d) with
 | none =>
  rw [List.find?_eq_none] at h
  constructor
  · intro q; cases q
  · rintro ⟨p, hp, h1, h2⟩
    exact absurd (show toB lf d p = true by unfold toB; rw [h1, h2]; simp) (h p hp)
 | some p =>
  have h1 := List.find?_some h
  have h2 := List.mem_of_find?_eq_some h
  unfold toB at h1
  rw [Bool.and_eq_true, decide_eq_true_iff] at h1
  exact ⟨fun _ => ⟨p, h2, h1.1, h1.2⟩, fun _ => rfl⟩
theorem can_iff {ts : List Tk} {R : Eds} {L : List Nat} {lf : List Bool} (h : InvT ts R L lf) (d : Nat) (hd : d < ts.length) : canB (prE ts ts.length ts.length) lf d = true ↔ d ∈ L ∧ firstB R ts.length (d : Int) = true := by
 unfold canB firstB
 rw [Bool.and_eq_true, decide_eq_true_iff, h.mem]
 have key : (!(ahV (prE ts ts.length ts.length) lf d).2) = true ↔ ∀ j, j < ts.length → (d : Int) ∉ R j := by
  rw [Bool.not_eq_true', ← Bool.not_eq_true, ah_iff]
  constructor
  · intro q j hj hm
    obtain ⟨h1, h2⟩ := (h.edg j _).1 hm
    obtain ⟨d', e, _, h3, h4⟩ := (edR_mem ts j _).1 h2
    have : d = d' := by omega
    subst this
    exact q ⟨(j, d), (prE_mem ts _ _ j d).2 ⟨hj, h3, h4⟩, rfl, ((h.mem j).1 h1).2⟩
  · rintro q ⟨⟨j, d'⟩, hp, rfl, hl⟩
    obtain ⟨h1, h2, h3⟩ := (prE_mem ts _ _ j d').1 hp
    exact q j h1 ((h.edg j _).2 ⟨(h.mem j).2 ⟨h1, hl⟩, (edR_mem ts j _).2 ⟨d', rfl, h1, h2, h3⟩⟩)
 rw [key]
 exact ⟨fun q => ⟨⟨hd, q.1⟩, q.2⟩, fun q => ⟨q.1.2, q.2⟩⟩
theorem cut_mem {L : List Nat} (hp : L.Pairwise (· < ·)) {k : Nat} (hk : k < L.length) (x : Nat) : x ∈ L.take k ++ L.drop (k + 1) ↔ x ∈ L ∧ x ≠ L[k] := by
 have e : L = L.take k ++ L[k] :: L.drop (k + 1) := by rw [List.getElem_cons_drop, List.take_append_drop]
 have hp2 := hp
 rw [e, List.pairwise_append, List.pairwise_cons] at hp2
 obtain ⟨-, ⟨h2, -⟩, h3⟩ := hp2
 constructor
 · intro hx
   rcases List.mem_append.1 hx with q | q
   · exact ⟨List.mem_of_mem_take q, fun z => by have := h3 x q L[k] (List.mem_cons.2 (.inl rfl)); omega⟩
   · exact ⟨List.mem_of_mem_drop q, fun z => by have := h2 x q; omega⟩
 · rintro ⟨hx, hne⟩
   rw [e] at hx
   rcases List.mem_append.1 hx with q | q
   · exact List.mem_append.2 (.inl q)
   · rcases List.mem_cons.1 q with q | q
     · exact absurd q hne
     · exact List.mem_append.2 (.inr q)
theorem cut_asc {L : List Nat} (hp : L.Pairwise (· < ·)) (k : Nat) : (L.take k ++ L.drop (k + 1)).Pairwise (· < ·) := by
 refine hp.sublist ?_
 have := List.eraseIdx_sublist L k
 rw [List.eraseIdx_eq_take_drop_succ] at this
 exact this
theorem InvT.step {ts : List Tk} {R : Eds} {L : List Nat} {lf : List Bool} (h : InvT ts R L lf) {k : Nat} (hk : k < L.length) : InvT ts (upd R L[k] []) (L.take k ++ L.drop (k + 1)) (lf.set L[k] false) := by
 have hl : L[k] < lf.length := by rw [h.len]; exact ((h.mem _).1 (List.getElem_mem hk)).1
 refine ⟨by rw [List.length_set]; exact h.len, cut_asc h.asc k, fun x => ?_, fun q z => ?_⟩
 · rw [cut_mem h.asc hk, h.mem]
   by_cases e : x = L[k]
   · rw [e]
     simp [List.getD, hl]
   · have : (lf.set L[k] false).getD x false = lf.getD x false := by
      simp only [List.getD]
      rw [List.getElem?_set_ne (fun z => e z.symm)]
     rw [this]
     constructor
     · rintro ⟨q, _⟩; exact q
     · intro q; exact ⟨q, e⟩
 · rw [cut_mem h.asc hk]
   by_cases e : q = L[k]
   · rw [e, upd_same]
     simp
   · rw [upd_other _ _ e, h.edg]
     constructor
     · rintro ⟨h1, h2⟩; exact ⟨⟨h1, e⟩, h2⟩
     · rintro ⟨⟨h1, _⟩, h2⟩; exact ⟨h1, h2⟩
theorem tk_same {ts : List Tk} : ∀ (f : Nat) {R : Eds} {T L : List Nat} {lf : List Bool}, InvT ts R L lf → (tkF ts.length f R T L).1 = (tkS ts.length (prE ts ts.length ts.length) f T lf).1 ∧ InvT ts (tkF ts.length f R T L).2.2 (tkF ts.length f R T L).2.1 (tkS ts.length (prE ts ts.length ts.length) f T lf).2 ∧ (tkF ts.length f R T L).1.length + (tkF ts.length f R T L).2.1.length = T.length + L.length
 | 0, R, T, L, lf, h => ⟨rfl, h, rfl⟩
 | f + 1, R, T, L, lf, h => by
  cases hf : L.findIdx? (fun x => firstB R ts.length ((x : Nat) : Int)) with
  | none =>
   rw [List.findIdx?_eq_none_iff] at hf
   have e1 := tkF_none (n := ts.length) (R := R) (T := T) (L := L) (fun j hj => by rw [nI_get hj]; simpa using hf L[j] (List.getElem_mem hj)) (f + 1)
   have e2 := tkS_none (n := ts.length) (E := prE ts ts.length ts.length) (T := T) (lf := lf) (fun d hd => by
    cases hc : canB (prE ts ts.length ts.length) lf d with
    | false => rfl
    | true =>
     obtain ⟨h1, h2⟩ := (can_iff h d hd).1 hc
     have := hf d h1
     rw [h2] at this; cases this) (f + 1)
   rw [e1, e2]
   exact ⟨rfl, h, rfl⟩
  | some k =>
   rw [List.findIdx?_eq_some_iff_getElem] at hf
   obtain ⟨hk, h1, h2⟩ := hf
   have hgd : L.getD k 0 = L[k] := by simp [List.getD, hk]
   have hdn : L[k] < ts.length := ((h.mem _).1 (List.getElem_mem hk)).1
   have e1 := tkF_some (n := ts.length) (R := R) (T := T) (L := L) hk (by rw [nI_get hk]; exact h1) (fun j hj => by rw [nI_get (by omega)]; simpa using h2 j hj) f
   have e2 := tkS_some (n := ts.length) (E := prE ts ts.length ts.length) (T := T) (lf := lf) hdn ((can_iff h _ hdn).2 ⟨List.getElem_mem hk, h1⟩) (fun e he => by
    cases hc : canB (prE ts ts.length ts.length) lf e with
    | false => rfl
    | true =>
     obtain ⟨g1, g2⟩ := (can_iff h e (by omega)).1 hc
     obtain ⟨j, hj, rfl⟩ := List.getElem_of_mem g1
     have hjk : j < k := by
      rcases Nat.lt_trichotomy j k with q | q | q
      · exact q
      · subst q; omega
      · have := List.pairwise_iff_getElem.1 h.asc k j hk hj q
        omega
     have := h2 j hjk
     rw [g2] at this; simp at this) f
   rw [hgd] at e1
   rw [e1, e2]
   have ih := tk_same f (T := T ++ [L[k]]) (h.step hk)
   refine ⟨ih.1, ih.2.1, ih.2.2.trans ?_⟩
   rw [List.length_append, List.length_append, List.length_take, List.length_drop]
   simp
   omega
theorem inv_start (ts : List Tk) : InvT ts (edR ts) (List.range ts.length) (List.replicate ts.length true) := by
 refine ⟨by simp, List.pairwise_lt_range, fun x => ?_, fun q z => ?_⟩
 · rw [List.mem_range]
   constructor
   · intro h; exact ⟨h, by simp [List.getD, h]⟩
   · exact fun h => h.1
 · rw [List.mem_range]
   constructor
   · intro h
     obtain ⟨j, _, h1, _⟩ := (edR_mem ts q z).1 h
     exact ⟨h1, h⟩
   · exact fun h => h.2
theorem take_same (ts : List Tk) : (tkS ts.length (prE ts ts.length ts.length) ts.length [] (List.replicate ts.length true)).1 = takenL ts ∧ (leftL ts = [] ↔ ¬ (takenL ts).length < ts.length) := by
 have h := tk_same (ts := ts) ts.length (T := []) (inv_start ts)
 refine ⟨h.1.symm, ?_⟩
 have h2 := h.2.2
 rw [List.length_range, List.length_nil, Nat.zero_add] at h2
 have h3 : (takenL ts).length + (leftL ts).length = ts.length := h2
 rw [← List.length_eq_zero_iff]
 omega
end Go.Proofs.YtjcjoabblafboaaGreat
/- The contract of the specification's GraphOrder. Conditions: texts of at most 2^21 bytes. -/


namespace Go.Proofs.YtjcjoabblafboaaGreat
open Go.RowKit
set_option maxRecDepth 100000
end Go.Proofs.YtjcjoabblafboaaGreat
/- The contracts of the laws' toDeed, szDeed, eqDeed. Conditions: deeds of at most 2^21 bytes, reads and writes together. -/


namespace Go.Proofs.YtjcjoabblafboaaGreat
open Go.RowKit
set_option maxRecDepth 100000
theorem Tryz.infoDd : (Tryz.prog.info? 68).map (fun i => (i.zero, i.size, i.bytes)) = some (some (.agg #[.int .i64 0, .int .i64 0, .int .i64 0, .slice none 0 0, .slice none 0 0]), 5, 72) := by kernel_rfl
end Go.Proofs.YtjcjoabblafboaaGreat
/- The contracts of the laws' toDeedS, szDeedS, eqDeedS. Conditions: deeds of at most 2^21 bytes together. -/


namespace Go.Proofs.YtjcjoabblafboaaGreat
open Go.RowKit
set_option maxRecDepth 100000
theorem OwnV.b {w : World} {lo hi : Nat} {v : Value} {ts : List Tk} (h : OwnV w lo hi v ts) : ∃ ms, w.ownsRow lo 68 5 v ts.length (cellsV ts ms) ∧ BandsT w lo hi ms ts := by
 obtain ⟨ms, hm, o, h1, h2⟩ := h.own
 exact ⟨ms, o, hm, h1, h2⟩
theorem BandsT.v {w : World} {lo hi : Nat} {v : Value} {ts : List Tk} {ms : List Mt} (h : BandsT w lo hi ms ts) (o : w.ownsRow lo 68 5 v ts.length (cellsV ts ms)) (ht : ∀ g, v.ownBlock = some g → g < hi) : OwnV w lo hi v ts := ⟨⟨ms, h.len, o, h.own, h.apart⟩, ht⟩
end Go.Proofs.YtjcjoabblafboaaGreat
/- The contract of the laws' markDeedS. Conditions: deeds of at most 2^21 bytes together. -/


namespace Go.Proofs.YtjcjoabblafboaaGreat
open Go.RowKit
set_option maxRecDepth 100000
end Go.Proofs.YtjcjoabblafboaaGreat
/- FnExactGraphOrder' walk. Conditions: none but what the arguments' types say. -/



namespace Go.Proofs.YtjcjoabblafboaaGreat
open Go.RowKit
set_option maxRecDepth 100000
theorem tkF_mem (n : Nat) : ∀ (f : Nat) (R : Eds) (T L : List Nat), ∀ x ∈ (tkF n f R T L).1, x ∈ T ∨ x ∈ L
 | 0, R, T, L, x, h => .inl h
 | f + 1, R, T, L, x, h => by
  unfold tkF at h
  cases hf : L.findIdx? (fun x => firstB R n ((x : Nat) : Int)) with
  | none => rw [hf] at h; exact .inl h
  | some k =>
   rw [hf] at h
   have hk := (List.findIdx?_eq_some_iff_getElem.1 hf).1
   rcases tkF_mem n f _ _ _ x h with q | q
   · rcases List.mem_append.1 q with q | q
     · exact .inl q
     · have : x = L.getD k 0 := by simpa using q
       rw [this, show L.getD k 0 = L[k] by simp [List.getD, hk]]
       exact .inr (List.getElem_mem hk)
   · rcases List.mem_append.1 q with q | q
     · exact .inr (List.mem_of_mem_take q)
     · exact .inr (List.mem_of_mem_drop q)
theorem ordL_bd (ts : List Tk) : (ordL ts).length ≤ 100 ∧ ∀ x ∈ ordL ts, x < 1048576 := by
 unfold ordL
 split
 · rename_i h
   unfold ordOk at h
   have hd := deedsB_ok (of_decide_eq_true h).1
   have h1 := hd.1
   have h2 := (tk_same (ts := ts) ts.length (T := []) (inv_start ts)).2.2
   rw [List.length_range, List.length_nil, Nat.zero_add] at h2
   have h3 : (takenL ts).length + (leftL ts).length = ts.length := h2
   refine ⟨by omega, fun x hx => ?_⟩
   rcases tkF_mem _ _ _ _ _ x hx with q | q
   · cases q
   · have := List.mem_range.1 q; omega
 · exact ⟨by simp, fun x hx => by cases hx⟩
end Go.Proofs.YtjcjoabblafboaaGreat
