/- Texts of this proof in one: Vf14 Vd14 Vg14. -/
import Derived.Test.YtecdnheopmojfaaGreatVe14
import Derived.Test.YtecdnheopmojfaaGreatVb14
import Derived.Test.YtecdnheopmojfaaGreatHy14
import Derived.Maps.RangeWalk
import Derived.Test.YtecdnheopmojfaaGreatVc14
import Derived.Test.YtecdnheopmojfaaGreatHc14
/- The contract of the program's pairs. Conditions: at most 100 deeds, edges among them. -/




namespace Go.Proofs.YtecdnheopmojfaaGreat
open Go.RowKit Go.Maps
set_option maxRecDepth 100000
section
variable {w : World} {k : TypeId} {H : Type} {R : Value → Option (DataW H × List MemPlace)} {b r n : Nat} {D : DataW H} {left : Lit → Bool} {cnt : Nat}
theorem rng_iter (h : w.ranges Tryz.prog k R b r n D left cnt) : ∃ x s c d, w.heap[r]? = some (.mapIter x s c d) := by
 obtain ⟨es, cl, si, se, c0, h1, h2, h3, h4, h5, _⟩ := h
 exact ⟨_, _, _, _, h5⟩
theorem rng_map (h : w.ranges Tryz.prog k R b r n D left cnt) : ∃ es cl, w.heap[b]? = some (.map es cl) := by
 obtain ⟨es, cl, si, se, c0, h1, _⟩ := h
 exact ⟨_, _, h1⟩
theorem row_kind {base : Nat} {e : TypeId} {s m : Nat} {v : Value} {xs : List Value} (h : w.ownsRow base e s v m xs) {g : Nat} (hg : v.ownBlock = some g) : ∃ c fz, w.heap[g]? = some (.cells c e fz) := by
 rcases h.2 with ⟨rfl, _⟩ | ⟨g', cap, cur, rfl, _, hh, _⟩
 · cases hg
 · cases hg
   exact ⟨_, _, hh⟩
theorem row_iter {base : Nat} {e : TypeId} {s m : Nat} {v : Value} {xs : List Value} (h : w.ranges Tryz.prog k R b r n D left cnt) (o : w.ownsRow base e s v m xs) : v.ownBlock ≠ some r ∧ v.ownBlock ≠ some b := by
 constructor
 · intro q
   obtain ⟨c, fz, h1⟩ := row_kind o q
   obtain ⟨x, y, z, u, h2⟩ := rng_iter h
   rw [h1] at h2; cases h2
 · intro q
   obtain ⟨c, fz, h1⟩ := row_kind o q
   obtain ⟨x, y, h2⟩ := rng_map h
   rw [h1] at h2; cases h2
end
theorem keyInt_inv (key : Value) (kl : Lit) (h : keyOf Tryz.prog 3 key = some kl) : ∃ x : Int, key = .int .i64 x := by
 obtain ⟨x, rfl, _⟩ := Maps.keyOf_int_inv Tryz.underlying3 h
 exact ⟨x, rfl⟩
theorem unit_inv14 (v : Value) (y : DataW Unit × List MemPlace) (h : unitElem v = some y) : ∃ _ : Unit, v = Value.agg #[] := ⟨(), (unitElem_inv h).1⟩
theorem same_int14 (x y : Int) : (Lit.int .i64 x).sameKey (.int .i64 y) = decide (x = y) := by
 by_cases h : x = y
 · subst h; simp [Lit.sameKey]
 · rw [sameKey_ne (fun e => h (by cases e; rfl)), decide_eq_false h]
def cameP (Ri : List Int) (left : Lit → Bool) (S : List Nat) : Prop := S.Nodup ∧ (∀ j : Nat, j ∈ S ↔ (j : Int) ∈ Ri ∧ left (.int .i64 (j : Int)) = false) ∧ ∀ x : Int, left (.int .i64 x) = true → x ∈ Ri
theorem came_start (Ri : List Int) : cameP Ri (Maps.has (momS Ri)) [] := by
 refine ⟨List.nodup_nil, fun j => ?_, fun x h => ?_⟩
 · rw [has_mom]; simp
 · rw [has_mom] at h; exact of_decide_eq_true h
theorem came_next {Ri : List Int} {left : Lit → Bool} {S : List Nat} (h : cameP Ri left S) {j : Nat} (hl : left (.int .i64 (j : Int)) = true) : cameP Ri (fun z => left z && !z.sameKey (.int .i64 (j : Int))) (S ++ [j]) := by
 obtain ⟨h1, h2, h3⟩ := h
 have hj : j ∉ S := fun q => by rw [((h2 j).1 q).2] at hl; cases hl
 refine ⟨?_, fun i => ?_, fun x q => ?_⟩
 · rw [List.nodup_append]
   exact ⟨h1, by simp, fun a ha b hb e => by subst e; simp at hb; subst hb; exact hj ha⟩
 · show i ∈ S ++ [j] ↔ (i : Int) ∈ Ri ∧ (left (.int .i64 (i : Int)) && !(Lit.int .i64 (i : Int)).sameKey (.int .i64 (j : Int))) = false
   rw [List.mem_append, h2 i, same_int14]
   by_cases e : i = j
   · subst e; simp [h3 _ hl]
   · have e' : ¬ (i : Int) = (j : Int) := by omega
     rw [decide_eq_false e']; simp [e]
 · rw [Bool.and_eq_true] at q
   exact h3 x q.1
theorem came_end {Ri : List Int} {left : Lit → Bool} {S : List Nat} (h : cameP Ri left S) (hl : ∀ kl, left kl = false) (j : Nat) : j ∈ S ↔ (j : Int) ∈ Ri := by
 rw [h.2.1 j, hl]; simp
def pairsP (R : Eds) (i : Nat) (Q : List Pr) : Prop := Q.Nodup ∧ ∀ p : Pr, p ∈ Q ↔ p.1 < i ∧ ((p.2 : Nat) : Int) ∈ R p.1
theorem pairs_next {R : Eds} {i : Nat} {Q : List Pr} (h : pairsP R i Q) {S : List Nat} (hn : S.Nodup) (hs : ∀ j : Nat, j ∈ S ↔ (j : Int) ∈ R i) : pairsP R (i + 1) (Q ++ S.map (fun j => (i, j))) := by
 refine ⟨?_, fun p => ?_⟩
 · rw [List.nodup_append]
   refine ⟨h.1, ?_, fun a ha b hb e => ?_⟩
   · unfold List.Nodup
     rw [List.pairwise_map]
     exact hn.imp (fun {a b} q e => q (by cases e; rfl))
   · subst e
     have := ((h.2 a).1 ha).1
     rw [List.mem_map] at hb
     obtain ⟨j, _, rfl⟩ := hb
     simp at this
 · rw [List.mem_append, h.2 p, List.mem_map]
   constructor
   · rintro (⟨q1, q2⟩ | ⟨j, q, rfl⟩)
     · exact ⟨by omega, q2⟩
     · exact ⟨by simp, (hs j).1 q⟩
   · rintro ⟨q1, q2⟩
     by_cases e : p.1 < i
     · exact .inl ⟨e, q2⟩
     · have e' : p.1 = i := by omega
       refine .inr ⟨p.2, ?_, by rw [← e']⟩
       rw [hs, ← e']; exact q2
theorem asc_of {l : List Pr} (h : l.Pairwise (fun x y => ¬ ltP y x)) (hn : l.Nodup) : l.Pairwise ltP := by
 refine (h.and hn).imp (fun {x y} q => ?_)
 obtain ⟨q1, q2⟩ := q
 have : ¬ (x.1 = y.1 ∧ x.2 = y.2) := fun z => q2 (Prod.ext z.1 z.2)
 unfold ltP at q1 ⊢
 omega
set_option maxHeartbeats 12800000 in
theorem impl_pairs {base g n : Nat} {M : Nat → Nat} {R : Eds} {w : World} (h : EdM w base g n M R) (hn : n ≤ 100) (hR : ∀ i, i < n → ∀ z ∈ R i, ∃ j : Nat, z = (j : Int) ∧ j < n) :
 Calls Tryz.prog 39 #[.slice (some ⟨g, 0, none⟩) n n] w fun e w' => ∃ (l : List Pr) (a : Option Addr) (c : Nat), e = .returned (.slice a l.length c) ∧ l.Pairwise ltP ∧ (∀ p : Pr, p ∈ l ↔ p.1 < n ∧ ((p.2 : Nat) : Int) ∈ R p.1) ∧ w'.ownsRow w.heap.size 33 2 (.slice a l.length c) l.length (fP l) ∧ Below w.heap.size w w' := by
 have HE := hid h
 have HRb := hid hR
 obtain ⟨i0, hinf, hz0, hz1, hz2⟩ := infoP
 clear h hR
 go_enter Tryz.func39, Tryz.ntmps39
 go_wp2_with fail
 go_loopw [3, 9] (fun s3 s9 wr => ∃ (i : Nat) (Q : List Pr) (a : Option Addr) (c : Nat), i ≤ n ∧ s9 = .int .i64 i ∧ s3 = .slice a Q.length c ∧ Hid (pairsP R i Q) ∧ Hid (Q.length ≤ i * 100) ∧ Hid (wr.ownsRow w.heap.size 33 2 (.slice a Q.length c) Q.length (fP Q)) ∧ Hid (Below w.heap.size w wr)) (fun _ s _ => n - (intOf s).toNat)
 case atStart => exact ⟨0, [], none, 0, Nat.zero_le _, rfl, rfl, hid ⟨List.nodup_nil, fun p => by simp⟩, hid (by simp), hid (World.ownsRow_nil _ _ _ _), hid (Below.refl _ _)⟩
 case round =>
  obtain ⟨i, Q, a, c, hi, rfl, rfl, HP, HQ, HO, HW⟩ := hrel
  by_cases hlt : i < n
  · have hlt' : (i : Int) < (n : Int) := by omega
    have hi0 : (0 : Int) ≤ (i : Int) := by omega
    have HEr := hid (HE.out.below HW.out)
    have hcl := HEr.out.cell hlt
    have HMi := hid (HEr.out.map i hlt)
    obtain ⟨es0, cl0, hmb⟩ := HE.out.isMap hlt
    have HMl := hid (Array.getElem?_eq_some_iff.1 hmb).1
    have HRi := hid (HRb.out i hlt)
    have HPn := hid (fun S hS hS2 => pairs_next HP.out (S := S) hS hS2)
    have HQz := hid (show Q.length ≤ 10000 by have := HQ.out; omega)
    obtain ⟨Ri, hRi⟩ : ∃ Ri, R i = Ri := ⟨_, rfl⟩
    have HRR := hid hRi
    rw [hRi] at HMi HRi HPn
    obtain ⟨mi, hmi⟩ : ∃ mi, M i = mi := ⟨_, rfl⟩
    rw [hmi] at hcl HMi HMl
    obtain ⟨r, hr⟩ : ∃ r, wr.heap.size = r := ⟨_, rfl⟩
    have HRg := hid hr
    have HRs := hid (show w.heap.size ≤ r by rw [← hr]; exact HW.out.size)
    clear hmb hRi hmi HEr HP
    go_wp2_with (at_range; refine wpList_range_own _ rfl _ 68 rfl 3 70 law14 Tryz.underlying68 (unitElem (H := Unit)) mi Ri.length (momS Ri) rfl HMi.out ?_; intro w0 hrg0 hg0 hs0)
    go_frame
    rw [hr] at hrg0
    try rw [hr]
    have HG0 := hid hrg0
    have HO0 := hid (HO.out.kept hg0 (by cases hv : Value.ownBlock (.slice a Q.length c) with
     | none => exact .inl rfl
     | some q => exact .inr (by simp)))
    have HW0 := hid (HW.out.grown hg0 HW.out.size (fun j hj => by cases hj))
    clear hrg0 hg0 hs0 HMi hcl hr
    go_loopw [3] (fun s3 wq => ∃ (left : Lit → Bool) (cnt : Nat) (S : List Nat) (a : Option Addr) (c : Nat), s3 = .slice a (Q ++ S.map (fun j => (i, j))).length c ∧ wq.ranges Tryz.prog 3 (unitElem (H := Unit)) mi r Ri.length (momS Ri) left cnt ∧ Hid (cameP Ri left S) ∧ Hid (wq.ownsRow w.heap.size 33 2 (.slice a (Q ++ S.map (fun j => (i, j))).length c) (Q ++ S.map (fun j => (i, j))).length (fP (Q ++ S.map (fun j => (i, j))))) ∧ Hid (Below w.heap.size w wq)) (fun _ wq => wq.rangeLeft mi r)
    case atStart => exact ⟨_, _, [], a, c, by simp, HG0.out, hid (came_start Ri), by simpa using HO0, HW0⟩
    case round =>
     clear HO HW HG0 HO0 HW0
     obtain ⟨left, cnt, S, a, c, rfl, hrg, HC, HO, HW⟩ := hrel
     have HSl := hid (show S.length ≤ 100 from Nat.le_trans (nodup_le n S HC.out.1 (fun j hj => by
      obtain ⟨j', e, hj'⟩ := HRi.out _ ((HC.out.2.1 j).1 hj).1
      omega)) hn)
     obtain ⟨X, hX⟩ : ∃ X, Q ++ S.map (fun j => (i, j)) = X := ⟨_, rfl⟩
     have HXs := hid (fun j => show Q ++ (S ++ [j]).map (fun j => (i, j)) = X ++ [(i, j)] by rw [List.map_append, ← List.append_assoc, hX]; rfl)
     have HXl := hid (show X.length ≤ 10100 by rw [← hX, List.length_append, List.length_map]; have := HSl.out; have := HQz.out; omega)
     have HXi := hid (show X.length ≤ i * 100 + 100 by rw [← hX, List.length_append, List.length_map]; have := HSl.out; have := HQ.out; omega)
     have HXX := hid hX
     rw [hX] at HO
     try rw [hX]
     clear hX
     go_wp2_with (first | (at_next; refine wpList_next_ranges _ rfl _ rfl 3 law14 (unitElem (H := Unit)) (Value.int .i64) (fun _ : Unit => Value.agg #[]) keyInt_inv unit_inv14 mi r Ri.length (momS Ri) left cnt rfl hrg ?_ ?_) | go_in)
     · intro hc0 hl0
       have HN := hid (show pairsP R (i + 1) X by rw [← HXX.out]; exact HPn.out S HC.out.1 (came_end HC.out hl0))
       clear hc0 hl0
       go_wp2_with fail
       go_roundw
       case rel => exact ⟨i + 1, X, a, c, by omega, by go_num, rfl, HN, hid (by have := HXi.out; omega), HO, HW⟩
       case measure => simp [intOf]; omega
     · intro x u kl y w1 cnt1 hkey hlx hv hat hrg1 hct hg1 hs1 hen
       obtain ⟨x', ex, rfl, _⟩ := Maps.keyOf_int_inv Tryz.underlying3 hkey
       cases ex
       obtain ⟨j, rfl, hjn⟩ := HRi.out x (HC.out.2.2 x hlx)
       have HC1 := hid (came_next HC.out hlx)
       have ne1 := (row_iter hrg HO.out)
       have HO1 := hid (HO.out.kept hg1 (.inr ne1.1))
       have HW1 := hid (HW.out.grown hg1 HW.out.size (fun q hq => by cases hq; exact HRs.out))
       have hrA := hrg1.alloc (.cells #[.int .i64 (i : Int), .int .i64 (j : Int)] 33)
       have bA := Below.alloc1 w1 (.cells #[.int .i64 (i : Int), .int .i64 (j : Int)] 33)
       have HA1 := hid (heap_alloc_new w1 (.cells #[.int .i64 (i : Int), .int .i64 (j : Int)] 33))
       have OA := hid (owns_below bA (Nat.le_refl _) HO1.out)
       have BA := hid (HW1.out.trans (bA.mono HW1.out.size))
       have ne2 := row_iter hrA OA.out
       have HLe := hid (hrg.left_eq)
       have HCt := hid hct
       clear bA hkey hv hat hlx hg1 hs1 hrg1 hrg ne1 hct
       go_wp2_with (at_builtin; refine wpList_append_row rfl _ _ 27 rfl w.heap.size 33 i0 (.agg #[.int .i64 0, .int .i64 0]) 2 16 Tryz.underlying27 hinf hz0 hz1 hz2 rfl (by decide) _ X.length (fP X) rfl OA.out (some ⟨w1.heap.size, 0, none⟩) 1 1 [.int .i64 (i : Int), .int .i64 (j : Int)] rfl rfl (.inr ⟨_, rfl, World.news_of_block HA1.out⟩) (fun e => by cases e) ?k1 ?k2 ?k3 ?k4 ?_)
       case k1 => simp [Value.oneCell']
       case k2 => unfold maxLen; have := HXl.out; omega
       case k3 => have := HXl.out; omega
       case k4 => exact BA.out.size
       intro a5 c5 w5 o5 hg5
       have O5 := hid (show w5.ownsRow w.heap.size 33 2 (.slice a5 (X.length + 1) c5) (X.length + 1) (fP (X ++ [(i, j)])) by rw [fP_app, fP_one]; exact o5)
       have B5 := hid (BA.out.grown hg5 BA.out.size (fun r e => (OA.out.lt r e).1))
       have hrg5 := hrA.kept hg5 (fun e => ne2.2 e.symm) (fun e => ne2.1 e.symm)
       have HN3 := hid (show (X ++ [(i, j)]).length = X.length + 1 by rw [List.length_append]; rfl)
       clear o5 hg5 hen hrA ne2
       go_wp2_with fail
       go_roundw
       case rel =>
        refine ⟨_, cnt1, S ++ [j], a5, c5, by rw [HXs.out, HN3.out], hrg5, HC1, hid ?_, B5⟩
        rw [HXs.out, HN3.out]; exact O5.out
       case measure => rw [hrg5.left_eq, HLe.out]; exact HCt.out
  · have hlt' : ¬ (i : Int) < (n : Int) := by omega
    obtain rfl : i = n := by omega
    have HQz := hid (show Q.length ≤ 2097152 by have := HQ.out; omega)
    go_wp2_with fail
    refine (sort_pairs Q rfl wr HO.out HQz.out).mono ?_
    rintro e w5 ⟨rfl, l, hp, hs, ho, hgr⟩
    have HLn := hid (hp.length_eq)
    have B5 := hid (HW.out.grown hgr HW.out.size (fun r e => (HO.out.lt r e).1))
    have HAs := hid (asc_of hs (hp.nodup_iff.2 HP.out.1))
    have HMm := hid (fun p => (hp.mem_iff (a := p)).trans (HP.out.2 p))
    have HOo := hid ho
    clear hp hs ho hgr
    go_wp2_with fail
    go_ret
    refine ⟨l, a, c, by rw [HLn.out]; rfl, HAs.out, HMm.out, ?_, B5.out⟩
    rw [HLn.out]; exact HOo.out
end Go.Proofs.YtecdnheopmojfaaGreat
/- The edges by keys are the edges by pairs: plain. Conditions: the deeds are right. -/



namespace Go.Proofs.YtecdnheopmojfaaGreat
open Go.RowKit
set_option maxRecDepth 100000
theorem mem_fold14 {f : Eds → Nat → Eds} {P : Nat → Nat → Int → Prop} (hf : ∀ R x q z, z ∈ f R x q ↔ z ∈ R q ∨ P x q z) : ∀ (W : List Nat) (R : Eds) (q : Nat) (z : Int), z ∈ (W.foldl f R) q ↔ z ∈ R q ∨ ∃ x, x ∈ W ∧ P x q z
 | [], R, q, z => by simp
 | x :: W, R, q, z => by
  rw [List.foldl_cons, mem_fold14 hf W, hf]
  simp only [List.mem_cons, exists_eq_or_imp, or_assoc]
theorem upd_mem (R : Eds) (p : Nat) (x : Int) (q : Nat) (z : Int) : z ∈ upd R p (R p ++ [x]) q ↔ z ∈ R q ∨ (q = p ∧ z = x) := by
 unfold upd
 by_cases e : q = p
 · subst e; rw [if_pos rfl]; simp
 · rw [if_neg e]; simp [e]
def pW (ts : List Tk) (p x q : Nat) (z : Int) : Prop := (ts.getD p tk0).ended < (ts.getD x tk0).ended ∧ q = p ∧ z = (x : Int)
def pR (ts : List Tk) (p r q : Nat) (z : Int) : Prop := ((ts.getD p tk0).ended < (ts.getD r tk0).begun ∧ q = p ∧ z = (r : Int)) ∨ (¬ (ts.getD p tk0).ended < (ts.getD r tk0).begun ∧ p ≠ r ∧ q = r ∧ z = (p : Int))
theorem stW_mem (ts : List Tk) (p : Nat) (R : Eds) (x q : Nat) (z : Int) : z ∈ stW ts p R x q ↔ z ∈ R q ∨ pW ts p x q z := by
 unfold stW pW
 generalize (ts.getD p tk0).ended = A
 generalize (ts.getD x tk0).ended = B
 split
 · rename_i h; rw [upd_mem]; simp [h]
 · rename_i h; simp [h]
theorem stR_mem (ts : List Tk) (p : Nat) (R : Eds) (r q : Nat) (z : Int) : z ∈ stR ts p R r q ↔ z ∈ R q ∨ pR ts p r q z := by
 unfold stR pR
 generalize (ts.getD p tk0).ended = A
 generalize (ts.getD r tk0).begun = B
 split
 · rename_i h; rw [upd_mem]; simp [h]
 · rename_i h
   split
   · rename_i k; rw [upd_mem]; simp [h, k]
   · rename_i k; simp [h, k]
theorem adW_mem (ts : List Tk) (W Rd : List Nat) (R : Eds) (p q : Nat) (z : Int) : z ∈ adW ts W Rd R p q ↔ z ∈ R q ∨ ((∃ x, x ∈ W ∧ pW ts p x q z) ∨ ∃ r, r ∈ Rd ∧ pR ts p r q z) := by
 unfold adW
 rw [mem_fold14 (stR_mem ts p), mem_fold14 (stW_mem ts p), or_assoc]
theorem stK_mem (ts : List Tk) (ks : List Im) (R : Eds) (i q : Nat) (z : Int) : z ∈ stK ts ks R i q ↔ z ∈ R q ∨ ∃ p, p ∈ useL ts ks ts.length (i * 2) ∧ ((∃ x, x ∈ useL ts ks ts.length (i * 2) ∧ pW ts p x q z) ∨ ∃ r, r ∈ useL ts ks ts.length (i * 2 + 1) ∧ pR ts p r q z) := by
 unfold stK adK
 rw [mem_fold14 (adW_mem ts _ _)]
theorem allE_mem (ts : List Tk) (ks : List Im) (m q : Nat) (z : Int) : z ∈ allE ts ks m q ↔ ∃ i, i < m ∧ ∃ p, p ∈ useL ts ks ts.length (i * 2) ∧ ((∃ x, x ∈ useL ts ks ts.length (i * 2) ∧ pW ts p x q z) ∨ ∃ r, r ∈ useL ts ks ts.length (i * 2 + 1) ∧ pR ts p r q z) := by
 unfold allE
 rw [mem_fold14 (stK_mem ts ks)]
 simp
theorem use_w (ts : List Tk) (ks : List Im) (i d : Nat) : d ∈ useL ts ks ts.length (i * 2) ↔ d < ts.length ∧ wrB (ts.getD d tk0) (ks.getD i im0) = true := by
 unfold useL useB
 rw [List.mem_filter, List.mem_range, if_pos (by omega), Nat.mul_div_cancel i (by omega)]
theorem use_r (ts : List Tk) (ks : List Im) (i d : Nat) : d ∈ useL ts ks ts.length (i * 2 + 1) ↔ d < ts.length ∧ rdB (ts.getD d tk0) (ks.getD i im0) = true := by
 unfold useL useB
 rw [List.mem_filter, List.mem_range, if_neg (by omega), show (i * 2 + 1) / 2 = i by omega]
theorem tm_at : ∀ (ts : List Tk) (k : Nat), k < ts.length → (tmL ts).getD (2 * k) 0 = (ts.getD k tk0).begun ∧ (tmL ts).getD (2 * k + 1) 0 = (ts.getD k tk0).ended
 | [], k, h => by simp at h
 | t :: ts, 0, _ => by simp [tmL]
 | t :: ts, k + 1, h => by
  have := tm_at ts k (by simpa using h)
  rw [show tmL (t :: ts) = t.begun :: t.ended :: tmL ts by simp [tmL], show 2 * (k + 1) = 2 * k + 1 + 1 by omega]
  simpa using this
theorem nodup_get14 {l : List Int} (h : l.Nodup) {i j : Nat} (hi : i < l.length) (hj : j < l.length) (e : l.getD i 0 = l.getD j 0) : i = j := by
 have ei : l.getD i 0 = l[i] := by simp [List.getD, hi]
 have ej : l.getD j 0 = l[j] := by simp [List.getD, hj]
 rw [ei, ej] at e
 have hp := List.pairwise_iff_getElem.1 h
 rcases Nat.lt_trichotomy i j with q | q | q
 · exact absurd e (hp i j hi hj q)
 · exact q
 · exact absurd e.symm (hp j i hj hi q)
theorem tm_ne {ts : List Tk} (h : okDs ts) {p r : Nat} (hp : p < ts.length) (hr : r < ts.length) (hne : p ≠ r) : (ts.getD p tk0).ended ≠ (ts.getD r tk0).begun ∧ (ts.getD p tk0).ended ≠ (ts.getD r tk0).ended := by
 have hl := tmL_len ts
 obtain ⟨a1, a2⟩ := tm_at ts p hp
 obtain ⟨b1, b2⟩ := tm_at ts r hr
 constructor
 · intro e
   have := nodup_get14 h.2.2 (i := 2 * p + 1) (j := 2 * r) (by omega) (by omega) (by rw [a2, b1]; exact e)
   omega
 · intro e
   have := nodup_get14 h.2.2 (i := 2 * p + 1) (j := 2 * r + 1) (by omega) (by omega) (by rw [a2, b2]; exact e)
   omega
theorem edgeB_iff (t u : Tk) : edgeB t u = true ↔ (∃ e, e ∈ t.ws ∧ ((t.ended < u.ended ∧ hasM u.ws e = true) ∨ (t.ended < u.begun ∧ rdB u e = true))) ∨ ∃ e, e ∈ u.ws ∧ t.begun < u.ended ∧ rdB t e = true := by
 unfold edgeB
 simp only [Bool.or_eq_true, List.any_eq_true, Bool.and_eq_true, decide_eq_true_eq]
 exact Iff.rfl
theorem getD_imV {ws : List Im} {k : Nat} (h : k < ws.length) : ws.getD k im0 ∈ ws := by
 rw [show ws.getD k im0 = ws[k] by simp [List.getD, h]]; exact List.getElem_mem h
theorem all_ed {ts : List Tk} {ks : List Im} (hok : okDs ts) (hk : KeysOf ts ks) (q : Nat) (z : Int) : z ∈ allE ts ks ks.length q ↔ ∃ j : Nat, z = (j : Int) ∧ q < ts.length ∧ j < ts.length ∧ edB ts q j = true := by
 have okt : ∀ d, d < ts.length → (∀ p ∈ (ts.getD d tk0).rs, spB p = true) ∧ ∀ x ∈ (ts.getD d tk0).ws, okM x = true := fun d hd => okDs_mem hok (getD_tk hd)
 have okk : ∀ i, i < ks.length → okM (ks.getD i im0) = true := fun i hi => hk.ok _ (getD_imV hi)
 have hwr : ∀ d, d < ts.length → ∀ x, okM x = true → (wrB (ts.getD d tk0) x = true ↔ ∃ e, e ∈ (ts.getD d tk0).ws ∧ cmpM e x = 0) := by
  intro d hd x hx
  rw [← hasM_wr (okt d hd).2 hx]
  unfold hasM
  simp
 have hrd : ∀ d, d < ts.length → ∀ x y, okM x = true → okM y = true → cmpM y x = 0 → rdB (ts.getD d tk0) x = rdB (ts.getD d tk0) y := fun d hd x y hx hy e => anyS_same (okt d hd).1 hx hy e
 have hws : ∀ d, d < ts.length → ∀ x y, okM x = true → okM y = true → cmpM y x = 0 → wrB (ts.getD d tk0) x = wrB (ts.getD d tk0) y := fun d hd x y hx hy e => anyS_same (dupM_ok (okt d hd).2) hx hy e
 have hself : ∀ d, d < ts.length → ∀ e, e ∈ (ts.getD d tk0).ws → wrB (ts.getD d tk0) e = true := fun d hd e he => (hwr d hd e ((okt d hd).2 e he)).2 ⟨e, he, cmpM_self ((okt d hd).2 e he)⟩
 rw [allE_mem]
 constructor
 · rintro ⟨i, hi, p, hp, H⟩
   obtain ⟨hpn, hpw⟩ := (use_w ts ks i p).1 hp
   obtain ⟨e, he, hc⟩ := (hwr p hpn _ (okk i hi)).1 hpw
   have oe := (okt p hpn).2 e he
   rcases H with ⟨x, hx, h1, rfl, rfl⟩ | ⟨r, hr, ⟨h1, rfl, rfl⟩ | ⟨h1, h2, rfl, rfl⟩⟩
   · obtain ⟨hxn, hxw⟩ := (use_w ts ks i x).1 hx
     refine ⟨x, rfl, hpn, hxn, ?_⟩
     unfold edB
     rw [Bool.and_eq_true, decide_eq_true_iff]
     refine ⟨fun z => by subst z; omega, (edgeB_iff _ _).2 (.inl ⟨e, he, .inl ⟨h1, ?_⟩⟩)⟩
     rw [hasM_wr (okt x hxn).2 oe, ← hws x hxn _ e (okk i hi) oe hc]; exact hxw
   · obtain ⟨hrn, hrw⟩ := (use_r ts ks i r).1 hr
     refine ⟨r, rfl, hpn, hrn, ?_⟩
     unfold edB
     rw [Bool.and_eq_true, decide_eq_true_iff]
     refine ⟨fun z => ?_, (edgeB_iff _ _).2 (.inl ⟨e, he, .inr ⟨h1, ?_⟩⟩)⟩
     · subst z
       have := (deedB_lt (hok.2.1 q hpn)).2
       omega
     · rw [← hrd r hrn _ e (okk i hi) oe hc]; exact hrw
   · obtain ⟨hrn, hrw⟩ := (use_r ts ks i q).1 hr
     refine ⟨p, rfl, hrn, hpn, ?_⟩
     unfold edB
     rw [Bool.and_eq_true, decide_eq_true_iff]
     refine ⟨fun z => h2 z.symm, (edgeB_iff _ _).2 (.inr ⟨e, he, ?_, ?_⟩)⟩
     · have := (tm_ne hok hpn hrn h2).1
       omega
     · rw [← hrd q hrn _ e (okk i hi) oe hc]; exact hrw
 · rintro ⟨j, rfl, hq, hj, he⟩
   unfold edB at he
   rw [Bool.and_eq_true, decide_eq_true_iff] at he
   obtain ⟨hne, he⟩ := he
   have key : ∀ d, d < ts.length → ∀ e, e ∈ (ts.getD d tk0).ws → ∃ i, i < ks.length ∧ okM e = true ∧ cmpM (ks.getD i im0) e = 0 := by
    intro d hd e hm
    obtain ⟨y, hy, hc⟩ := hk.cov _ (getD_tk hd) e hm
    obtain ⟨i, hi, rfl⟩ := List.getElem_of_mem hy
    exact ⟨i, hi, (okt d hd).2 e hm, by rw [show ks.getD i im0 = ks[i] by simp [List.getD, hi]]; exact hc⟩
   rcases (edgeB_iff _ _).1 he with ⟨e, hm, ⟨h1, h2⟩ | ⟨h1, h2⟩⟩ | ⟨e, hm, h1, h2⟩
   · obtain ⟨i, hi, oe, hc⟩ := key q hq e hm
     rw [hasM_wr (okt j hj).2 oe] at h2
     refine ⟨i, hi, q, (use_w ts ks i q).2 ⟨hq, ?_⟩, .inl ⟨j, (use_w ts ks i j).2 ⟨hj, ?_⟩, h1, rfl, rfl⟩⟩
     · rw [← hws q hq e _ oe (okk i hi) hc]; exact hself q hq e hm
     · rw [← hws j hj e _ oe (okk i hi) hc]; exact h2
   · obtain ⟨i, hi, oe, hc⟩ := key q hq e hm
     refine ⟨i, hi, q, (use_w ts ks i q).2 ⟨hq, ?_⟩, .inr ⟨j, (use_r ts ks i j).2 ⟨hj, ?_⟩, .inl ⟨h1, rfl, rfl⟩⟩⟩
     · rw [← hws q hq e _ oe (okk i hi) hc]; exact hself q hq e hm
     · rw [← hrd j hj e _ oe (okk i hi) hc]; exact h2
   · obtain ⟨i, hi, oe, hc⟩ := key j hj e hm
     have h3 := (deedB_lt (hok.2.1 q hq)).2
     refine ⟨i, hi, j, (use_w ts ks i j).2 ⟨hj, ?_⟩, .inr ⟨q, (use_r ts ks i q).2 ⟨hq, ?_⟩, .inr ⟨by omega, fun z => hne z.symm, rfl, rfl⟩⟩⟩
     · rw [← hws j hj e _ oe (okk i hi) hc]; exact hself j hj e hm
     · rw [← hrd q hq e _ oe (okk i hi) hc]; exact h2
theorem prE_mem (ts : List Tk) (n m i j : Nat) : (i, j) ∈ prE ts n m ↔ i < m ∧ j < n ∧ edB ts i j = true := by
 unfold prE rowE
 simp only [List.mem_flatMap, List.mem_map, List.mem_filter, List.mem_range]
 constructor
 · rintro ⟨i', hi, j', ⟨hj, he⟩, e⟩
   cases e
   exact ⟨hi, hj, he⟩
 · rintro ⟨hi, hj, he⟩
   exact ⟨i, hi, j, ⟨hj, he⟩, rfl⟩
end Go.Proofs.YtecdnheopmojfaaGreat
/- The contract of the program's GraphEdges. Conditions: texts of at most 2^21 bytes. -/



namespace Go.Proofs.YtecdnheopmojfaaGreat
open Go.RowKit
set_option maxRecDepth 100000
set_option maxHeartbeats 6400000 in
theorem impl_GraphEdges {a : Option Addr} {n : Nat} (c : Nat) {ts : List Tk} {w : World} (h : RdV w a ts) (hv : ReadsV w a ts) (hl : ts.length = n) (hsm : smT ts) (hbd : bdTs ts) :
 Calls Tryz.prog 11 #[.slice a n c] w fun e w' => ∃ g cg, e = .returned (.slice g (edP ts).length cg) ∧ w'.ownsRow w.heap.size 33 2 (.slice g (edP ts).length cg) (edP ts).length (fP (edP ts)) ∧ Below w.heap.size w w' := by
 obtain ⟨V, hV⟩ : ∃ V, edP ts = V := ⟨_, rfl⟩
 rw [hV]
 have HVV := hid hV
 have HL := hid hl
 have HR := hid h
 clear hV h
 go_enter Tryz.func11, Tryz.ntmps11
 go_wp2_with fail
 refine (impl_DeedsOk c hv hl hsm hbd).mono ?_
 rintro e w1 ⟨rfl, b1⟩
 have B1 := hid b1
 replace HR := hid (HR.out.below b1 (Nat.le_refl _))
 clear b1 hl hsm hbd hv
 cases hdb : deedsB ts with
 | false =>
  have HF := hid (show V = [] by rw [← HVV.out]; unfold edP; rw [if_neg (by rw [hdb]; simp)])
  clear hdb
  go_wp2_with fail
  go_ret
  rw [HF.out]
  exact ⟨none, 0, rfl, World.ownsRow_nil _ _ _ _, B1.out⟩
 | true =>
 have HVe := hid (show V = prE ts n n by rw [← HVV.out]; unfold edP; rw [if_pos hdb, HL.out])
 have HOk := hid (deedsB_ok hdb)
 have hn : n ≤ 100 := by have := HOk.out.1; have := HL.out; omega
 clear hdb HVV
 go_wp2_with fail
 refine (impl_edgesOf c HR.out HL.out HOk.out).mono ?_
 rintro e w2 ⟨g, M, ks, rfl, hk, hE, b2⟩
 have B2 := hid (B1.out.trans (b2.mono B1.out.size))
 have HEd := hid (all_ed HOk.out hk)
 have HE := hid hE
 clear hk b2 hE
 go_wp2_with fail
 refine (impl_pairs HE.out hn (fun i hi z hz => by
  obtain ⟨j, e, _, hj, _⟩ := (HEd.out i z).1 hz
  exact ⟨j, e, by have := HL.out; omega⟩)).mono ?_
 rintro e w3 ⟨l, a3, c3, rfl, hs, hm, ho, b3⟩
 have HLl := hid (show l = V by
  rw [HVe.out]
  refine asc_eq l _ hs (prE_asc ts n n) (fun p => ?_)
  obtain ⟨i, j⟩ := p
  rw [hm, prE_mem]
  show i < n ∧ (j : Int) ∈ _ ↔ _
  rw [HEd.out]
  constructor
  · rintro ⟨h1, j', e, h2, h3, h4⟩
    have : j = j' := by omega
    subst this
    exact ⟨h1, by have := HL.out; omega, h4⟩
  · rintro ⟨h1, h2, h3⟩
    exact ⟨h1, j, rfl, by have := HL.out; omega, by have := HL.out; omega, h3⟩)
 have B3 := hid (B2.out.trans (b3.mono B2.out.size))
 have HO := hid (owns_lower ho B2.out.size)
 clear hs hm ho b3
 go_wp2_with fail
 go_ret
 rw [← HLl.out]
 exact ⟨a3, c3, rfl, HO.out, B3.out⟩
end Go.Proofs.YtecdnheopmojfaaGreat
