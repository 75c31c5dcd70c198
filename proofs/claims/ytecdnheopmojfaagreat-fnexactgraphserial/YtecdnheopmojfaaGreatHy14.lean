/- Serial orders, plain: what the specification looks at is what the order of turns says. No program; the deeds are right. -/
import Derived.Test.YtecdnheopmojfaaGreatHx14
namespace Go.Proofs.YtecdnheopmojfaaGreat
open Go.RowKit
set_option maxRecDepth 100000
theorem hasM_wr {t : Tk} {x : Im} (h : ∀ y ∈ t.ws, okM y = true) (hx : okM x = true) : hasM t.ws x = wrB t x := by
 unfold hasM wrB anyS dupM
 rw [List.any_map, Bool.eq_iff_iff, List.any_eq_true, List.any_eq_true]
 have key : ∀ y ∈ t.ws, (decide (cmpM y x = 0) = true ↔ inM (y, y) x = true) := by
  intro y hy
  have oy := h y hy
  rw [inM_iff oy oy hx, decide_eq_true_iff, decide_eq_true_iff]
  have := cmpM_anti oy hx
  show cmpM y x = 0 ↔ cmpM y x ≤ 0 ∧ cmpM x y ≤ 0
  constructor
  · intro e; exact ⟨by omega, by omega⟩
  · rintro ⟨e1, e2⟩; omega
 exact ⟨fun ⟨y, hy, q⟩ => ⟨y, hy, (key y hy).1 q⟩, fun ⟨y, hy, q⟩ => ⟨y, hy, (key y hy).2 q⟩⟩
theorem bh_last {ts : List Tk} (hok : okDs ts) {x : Im} (hx : okM x = true) {d : Nat} (hd : d < ts.length) : ∀ k, k ≤ ts.length → bhL ts d x k = lastW (endsOf ts) (ts.getD d tk0).begun ((List.range k).filter (fun p => wrB (ts.getD p tk0) x))
 | 0, _ => rfl
 | k + 1, hk => by
  have ih := bh_last hok hx hd k (by omega)
  have hor := bhL_or ts d x k
  rw [bhL_succ, filter_snoc14]
  have hw := hasM_wr (t := ts.getD k tk0) (x := x) (okDs_mem hok (getD_tk (by omega))).2 hx
  unfold lastW at ih ⊢
  rw [List.foldl_append, ← ih]
  cases hwr : wrB (ts.getD k tk0) x with
  | false =>
   rw [if_neg (by simp)]
   unfold bhF
   rw [if_neg (fun z => by have := z.2.1; rw [hw, hwr] at this; cases this)]
   rfl
  | true =>
   rw [if_pos rfl]
   show _ = lwS (endsOf ts) (ts.getD d tk0).begun (bhL ts d x k) k
   unfold bhF lwS
   rw [ends_at (ts := ts) (i := k) (by omega)]
   have hdd : (ts.getD d tk0).begun < (ts.getD d tk0).ended := (deedB_lt (hok.2.1 d hd)).2
   rcases hor with e | ⟨q, e, hq⟩
   · rw [e]
     by_cases hc : (ts.getD k tk0).ended < (ts.getD d tk0).begun
     · rw [if_pos ⟨fun e => by subst e; omega, by rw [hw]; exact hwr, hc, .inl (by omega)⟩, if_pos ⟨hc, .inl rfl⟩]
     · rw [if_neg (fun z => hc z.2.2.1), if_neg (fun z => hc z.1)]
   · rw [e, Int.toNat_natCast, ends_at (ts := ts) (i := q) (by omega)]
     by_cases hc : (ts.getD k tk0).ended < (ts.getD d tk0).begun ∧ (ts.getD q tk0).ended < (ts.getD k tk0).ended
     · rw [if_pos ⟨fun e => by subst e; omega, by rw [hw]; exact hwr, hc.1, .inr hc.2⟩, if_pos ⟨hc.1, .inr hc.2⟩]
     · rw [if_neg (fun z => hc ⟨z.2.2.1, by rcases z.2.2.2 with z | z; omega; exact z⟩), if_neg (fun z => hc ⟨z.1, by rcases z.2 with z | z; omega; exact z⟩)]
theorem lastW_spec (Nm : List Int) (lim : Int) : ∀ (V : List Nat) (l : Int) (D : List Nat), (l = -1 ∧ (∀ p ∈ D, ¬ Nm.getD p 0 < lim) ∨ ∃ q : Nat, l = (q : Int) ∧ q ∈ D ∧ Nm.getD q 0 < lim ∧ ∀ p ∈ D, Nm.getD p 0 < lim → Nm.getD p 0 ≤ Nm.getD q 0) →
 (V.foldl (lwS Nm lim) l = -1 ∧ (∀ p ∈ D ++ V, ¬ Nm.getD p 0 < lim) ∨ ∃ q : Nat, V.foldl (lwS Nm lim) l = (q : Int) ∧ q ∈ D ++ V ∧ Nm.getD q 0 < lim ∧ ∀ p ∈ D ++ V, Nm.getD p 0 < lim → Nm.getD p 0 ≤ Nm.getD q 0)
 | [], l, D, h => by rw [List.append_nil]; exact h
 | v :: V, l, D, h => by
  have := lastW_spec Nm lim V (lwS Nm lim l v) (D ++ [v]) (by
   unfold lwS
   rcases h with ⟨e, h⟩ | ⟨q, e, hq, h1, h2⟩
   · by_cases hc : Nm.getD v 0 < lim
     · rw [if_pos ⟨hc, .inl e⟩]
       refine .inr ⟨v, rfl, by simp, hc, fun p hp hlt => ?_⟩
       rcases List.mem_append.1 hp with hp | hp
       · exact absurd hlt (h p hp)
       · obtain rfl : p = v := by simpa using hp
         omega
     · rw [if_neg (fun z => hc z.1)]
       refine .inl ⟨e, fun p hp => ?_⟩
       rcases List.mem_append.1 hp with hp | hp
       · exact h p hp
       · obtain rfl : p = v := by simpa using hp
         exact hc
   · subst e
     rw [Int.toNat_natCast]
     by_cases hc : Nm.getD v 0 < lim ∧ Nm.getD q 0 < Nm.getD v 0
     · rw [if_pos ⟨hc.1, .inr hc.2⟩]
       refine .inr ⟨v, rfl, by simp, hc.1, fun p hp hlt => ?_⟩
       rcases List.mem_append.1 hp with hp | hp
       · have := h2 p hp hlt; omega
       · obtain rfl : p = v := by simpa using hp
         omega
     · rw [if_neg (fun z => hc ⟨z.1, by rcases z.2 with z | z; omega; exact z⟩)]
       refine .inr ⟨q, rfl, by simp [hq], h1, fun p hp hlt => ?_⟩
       rcases List.mem_append.1 hp with hp | hp
       · exact h2 p hp hlt
       · obtain rfl : p = v := by simpa using hp
         by_cases z : Nm.getD q 0 < Nm.getD p 0
         · exact absurd ⟨hlt, z⟩ hc
         · omega)
  rw [List.append_assoc] at this
  exact this
def loF (ts : List Tk) (O : List Int) (x : Im) (last : Int) (j : Nat) : Int := if hasM (ts.getD (O.getD j 0).toNat tk0).ws x = true then O.getD j 0 else last
def loL (ts : List Tk) (O : List Int) (x : Im) (i : Nat) : Int := (List.range i).foldl (loF ts O x) (-1)
theorem loL_succ (ts : List Tk) (O : List Int) (x : Im) (i : Nat) : loL ts O x (i + 1) = loF ts O x (loL ts O x i) i := by
 unfold loL
 rw [List.range_succ, List.foldl_append]; rfl
theorem loL_spec (ts : List Tk) (O : List Int) (x : Im) : ∀ i, (loL ts O x i = -1 ∧ ∀ j, j < i → hasM (ts.getD (O.getD j 0).toNat tk0).ws x = false) ∨ ∃ j, j < i ∧ loL ts O x i = O.getD j 0 ∧ hasM (ts.getD (O.getD j 0).toNat tk0).ws x = true ∧ ∀ j', j < j' → j' < i → hasM (ts.getD (O.getD j' 0).toNat tk0).ws x = false
 | 0 => .inl ⟨rfl, fun j hj => by omega⟩
 | i + 1 => by
  rw [loL_succ]
  unfold loF
  cases hh : hasM (ts.getD (O.getD i 0).toNat tk0).ws x with
  | true =>
   rw [if_pos rfl]
   exact .inr ⟨i, by omega, rfl, hh, fun j' h1 h2 => by omega⟩
  | false =>
   rw [if_neg (by simp)]
   rcases loL_spec ts O x i with ⟨e, h⟩ | ⟨j, hj, e, h1, h2⟩
   · refine .inl ⟨e, fun j hj => ?_⟩
     by_cases q : j = i
     · subst q; exact hh
     · exact h j (by omega)
   · refine .inr ⟨j, by omega, e, h1, fun j' h3 h4 => ?_⟩
     by_cases q : j' = i
     · subst q; exact hh
     · exact h2 j' h3 (by omega)
theorem nodup_le : ∀ (n : Nat) (l : List Nat), l.Nodup → (∀ x ∈ l, x < n) → l.length ≤ n
 | 0, l, _, h => by
  cases l with
  | nil => simp
  | cons x r => exact absurd (h x (by simp)) (by omega)
 | n + 1, l, hd, h => by
  by_cases hn : n ∈ l
  · have := nodup_le n (l.erase n) (hd.erase n) (fun x hx => by
     have h1 := (hd.mem_erase_iff).1 hx
     have h2 := h x h1.2
     have h3 := h1.1
     omega)
    rw [List.length_erase_of_mem hn] at this
    have : 0 < l.length := List.length_pos_of_mem hn
    omega
  · have := nodup_le n l hd (fun x hx => by
     have h2 := h x hx
     have : x ≠ n := fun e => hn (e ▸ hx)
     omega)
    omega
section
variable {O : List Int} {n : Nat} (ho : isOrd O n)
include ho
theorem ord_at {j : Nat} (hj : j < n) : tI O (O.getD j 0) = (j : Int) := by
 have hl : j < O.length := by rw [ho.1]; exact hj
 have hg : O.getD j 0 = O[j] := by simp [List.getD, hl]
 have hnot := (ho.2 j hj).2
 have hsplit : O = O.take j ++ (O.getD j 0 :: O.drop (j + 1)) := by
  conv => lhs; rw [← List.take_append_drop j O, List.drop_eq_getElem_cons hl]
  rw [hg]
 unfold tI
 rw [if_pos (by rw [hg]; exact List.getElem_mem hl)]
 have : O.idxOf (O.getD j 0) = j := by
  conv => lhs; rw [hsplit]
  rw [show (O.take j ++ (O.getD j 0 :: O.drop (j + 1))).getD j 0 = O.getD j 0 by rw [← hsplit]]
  rw [List.idxOf_append, if_neg hnot, List.idxOf_cons_self, List.length_take]
  omega
 rw [this]
theorem ord_nat {j : Nat} (hj : j < n) : ∃ p : Nat, O.getD j 0 = (p : Int) ∧ p < n := by
 have := (ho.2 j hj).1
 exact ⟨(O.getD j 0).toNat, by omega, by omega⟩
theorem ord_inj {i j : Nat} (hi : i < n) (hj : j < n) (h : O.getD i 0 = O.getD j 0) : i = j := by
 have h1 := ord_at ho hi
 have h2 := ord_at ho hj
 rw [h] at h1
 omega
theorem ord_all {p : Nat} (hp : p < n) : ∃ j, j < n ∧ O.getD j 0 = (p : Int) := by
 have hinj : ((List.range n).map (fun j => (O.getD j 0).toNat)).Nodup := by
  rw [List.nodup_iff_pairwise_ne, List.pairwise_map]
  refine List.Pairwise.imp_of_mem (fun {a b} ha hb hab e => ?_) List.nodup_range
  obtain ⟨q1, e1, _⟩ := ord_nat ho (List.mem_range.1 ha)
  obtain ⟨q2, e2, _⟩ := ord_nat ho (List.mem_range.1 hb)
  have e' : (O.getD a 0).toNat = (O.getD b 0).toNat := e
  rw [e1, e2, Int.toNat_natCast, Int.toNat_natCast] at e'
  exact hab (ord_inj ho (List.mem_range.1 ha) (List.mem_range.1 hb) (by rw [e1, e2, e']))
 have hsub : ((List.range n).map (fun j => (O.getD j 0).toNat)) ⊆ List.range n := by
  intro q hq
  obtain ⟨j, hj, rfl⟩ := List.mem_map.1 hq
  obtain ⟨q1, e1, h1⟩ := ord_nat ho (List.mem_range.1 hj)
  rw [e1, Int.toNat_natCast, List.mem_range]; exact h1
 have hmem : p ∈ (List.range n).map (fun j => (O.getD j 0).toNat) := by
  by_cases q : p ∈ (List.range n).map (fun j => (O.getD j 0).toNat)
  · exact q
  · have := nodup_le n (p :: (List.range n).map (fun j => (O.getD j 0).toNat)) (List.nodup_cons.2 ⟨q, hinj⟩) (fun x hx => by
     rcases List.mem_cons.1 hx with rfl | hx
     · exact hp
     · exact List.mem_range.1 (hsub hx))
    rw [List.length_cons, List.length_map, List.length_range] at this
    omega
 obtain ⟨j, hj, e⟩ := List.mem_map.1 hmem
 obtain ⟨q1, e1, _⟩ := ord_nat ho (List.mem_range.1 hj)
 rw [e1, Int.toNat_natCast] at e
 exact ⟨j, List.mem_range.1 hj, by rw [e1, e]⟩
end
theorem lo_last {ts : List Tk} (hok : okDs ts) {O : List Int} (ho : isOrd O ts.length) {x : Im} (hx : okM x = true) {i d : Nat} (hi : i < ts.length) (hd : O.getD i 0 = (d : Int)) : loL ts O x i = lastW (trn O ts.length) (tI O (d : Int)) (wrsOf ts x) := by
 have hti : tI O (d : Int) = (i : Int) := by rw [← hd]; exact ord_at ho hi
 rw [hti]
 have hL := lastW_spec (trn O ts.length) (i : Int) (wrsOf ts x) (-1) [] (.inl ⟨rfl, fun p hp => by cases hp⟩)
 rw [List.nil_append] at hL
 have hwl : ∀ p, p ∈ wrsOf ts x ↔ p < ts.length ∧ hasM (ts.getD p tk0).ws x = true := by
  intro p
  unfold wrsOf
  rw [List.mem_filter, List.mem_range]
  constructor
  · rintro ⟨h1, h2⟩; exact ⟨h1, by rw [hasM_wr (okDs_mem hok (getD_tk h1)).2 hx]; exact h2⟩
  · rintro ⟨h1, h2⟩; exact ⟨h1, by rw [← hasM_wr (okDs_mem hok (getD_tk h1)).2 hx]; exact h2⟩
 have hturn : ∀ j p, j < ts.length → O.getD j 0 = ((p : Nat) : Int) → p < ts.length → (trn O ts.length).getD p 0 = (j : Int) := by
  intro j p hj e hp
  rw [trn_at O hp, ← e]; exact ord_at ho hj
 rcases loL_spec ts O x i with ⟨e, h⟩ | ⟨j, hj, e, h1, h2⟩
 · rw [e]
   rcases hL with ⟨e2, _⟩ | ⟨q, e2, hq, hlt, _⟩
   · exact e2.symm
   · exfalso
     obtain ⟨hq1, hq2⟩ := (hwl q).1 hq
     obtain ⟨j, hj, hjq⟩ := ord_all ho hq1
     have := hturn j q hj hjq hq1
     rw [this] at hlt
     have := h j (by omega)
     rw [hjq, Int.toNat_natCast, hq2] at this
     cases this
 · rw [e]
   obtain ⟨p, hp, hpn⟩ := ord_nat ho (show j < ts.length by omega)
   have htp := hturn j p (by omega) hp hpn
   have hpw : p ∈ wrsOf ts x := (hwl p).2 ⟨hpn, by rw [hp, Int.toNat_natCast] at h1; exact h1⟩
   rcases hL with ⟨_, h3⟩ | ⟨q, e2, hq, hlt, hmx⟩
   · exact absurd (by rw [htp]; omega) (h3 p hpw)
   · obtain ⟨hq1, hq2⟩ := (hwl q).1 hq
     obtain ⟨j', hj', hjq⟩ := ord_all ho hq1
     have htq := hturn j' q hj' hjq hq1
     have hm := hmx p hpw (by rw [htp]; omega)
     rw [htp, htq] at hm
     rw [htq] at hlt
     by_cases q : j = j'
     · subst q
       show O.getD j 0 = _
       rw [hjq]; exact e2.symm
     · have := h2 j' (by omega) (by omega)
       rw [hjq, Int.toNat_natCast, hq2] at this
       cases this
end Go.Proofs.YtecdnheopmojfaaGreat
