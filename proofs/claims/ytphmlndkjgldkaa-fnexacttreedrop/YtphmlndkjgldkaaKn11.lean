/- Trees, plain: the specification's walk goes well just where the program links the nodes, finds them in order, and all leaves as deep. No program, no conditions. -/
import Derived.Test.YtphmlndkjgldkaaKm11
namespace Go.Proofs.Ytphmlndkjgldkaa
open Go.RowKit
set_option maxRecDepth 100000
theorem foldM_mono (g : List Bool → Int → Option (List Bool)) (hg : ∀ s k s', g s k = some s' → unseen s' ≤ unseen s) : ∀ (l : List Int) (s s' : List Bool), l.foldlM (fun s k => g s k) s = some s' → unseen s' ≤ unseen s
 | [], s, s', h => by
  have : s = s' := by simpa using h
  rw [this]; exact Nat.le_refl _
 | k :: l, s, s', h => by
  rw [List.foldlM_cons] at h
  cases hk : g s k with
  | none => rw [hk] at h; cases h
  | some s1 =>
   rw [hk] at h
   exact Nat.le_trans (foldM_mono g hg l s1 s' h) (hg s k s1 hk)
theorem outB_no {ns : List Nd} {sd : List Bool} {x : Int} (h : outB ns sd x = false) : 0 ≤ x ∧ x < ns.length ∧ sd.getD x.toNat true = false := by
 unfold outB at h
 rw [Bool.or_eq_false_iff] at h
 have h1 := of_decide_eq_false h.1
 exact ⟨by omega, by omega, h.2⟩
theorem lnk_mono (ns : List Nd) : ∀ (f : Nat) (sd : List Bool) (x : Int) (sd' : List Bool), lnk ns f sd x = some sd' → unseen sd' ≤ unseen sd
 | 0, sd, x, sd', h => by cases h
 | f + 1, sd, x, sd', h => by
  unfold lnk at h
  split at h
  · cases h
  · rename_i hc
    have ho : outB ns sd x = false := by
     rw [Bool.not_eq_true, Bool.or_eq_false_iff] at hc
     exact hc.1
    have h1 := foldM_mono (fun s k => lnk ns f s k) (fun s k s' => lnk_mono ns f s k s') _ _ _ h
    have h2 := unseen_set sd x.toNat (outB_no ho).2.2
    omega
structure Well (ns : List Nd) (f : Nat) (st : St) (x deep : Int) (lo hi : Option En) (D : Int) (R : St) : Prop where
 iff : R.wrong = false ↔ ((∃ sd, lnk ns f st.seen x = some sd) ∧ ino ns f x lo hi = true ∧ lvs ns f x (D - deep + 1) = true)
 seen : R.wrong = false → lnk ns f st.seen x = some R.seen
 deep : R.wrong = false → R.deep = D
 all : R.wrong = false → R.all = st.all ++ lfs ns f x
def dOf (ns : List Nd) (f : Nat) (st : St) (x deep : Int) : Int := if st.deep = 0 then deep + hgt ns f x - 1 else st.deep
abbrev Kid := Int × Option En × Option En
def runK (ns : List Nd) (f : Nat) (dp : Int) (L : List Kid) (st : St) : St := L.foldl (fun s t => goS ns f s t.1 dp t.2.1 t.2.2) st
theorem runK_wrong (ns : List Nd) (f : Nat) (dp : Int) : ∀ (L : List Kid) (st : St), st.wrong = true → (runK ns f dp L st).wrong = true
 | [], _, h => h
 | _ :: L, st, h => runK_wrong ns f dp L _ (goS_wrong ns f st _ _ _ _ h)
theorem kids_well (ns : List Nd) (f : Nat) (dp D : Int) (hD : 0 < D)
 (main : ∀ (st : St) (x : Int) (lo hi : Option En), unseen st.seen < f → st.wrong = false → 0 ≤ st.deep → Well ns f st x dp lo hi (dOf ns f st x dp) (goS ns f st x dp lo hi)) :
 ∀ (L : List Kid) (st : St), unseen st.seen < f → st.wrong = false → 0 ≤ st.deep → (st.deep = 0 → ∀ t L', L = t :: L' → D = dp + hgt ns f t.1 - 1) → (st.deep ≠ 0 → D = st.deep) →
  ((runK ns f dp L st).wrong = false ↔ ((∃ sd, (L.map (·.1)).foldlM (fun s k => lnk ns f s k) st.seen = some sd) ∧ (∀ t ∈ L, ino ns f t.1 t.2.1 t.2.2 = true) ∧ (∀ t ∈ L, lvs ns f t.1 (D - dp + 1) = true))) ∧
  ((runK ns f dp L st).wrong = false → (L.map (·.1)).foldlM (fun s k => lnk ns f s k) st.seen = some (runK ns f dp L st).seen ∧ (L ≠ [] → (runK ns f dp L st).deep = D) ∧ (runK ns f dp L st).all = st.all ++ (L.map (fun t => lfs ns f t.1)).flatten)
 | [], st, _, hw, _, _, _ => by
  have e : runK ns f dp [] st = st := rfl
  rw [e]
  refine ⟨⟨fun _ => ⟨⟨st.seen, rfl⟩, (fun t ht => by cases ht), (fun t ht => by cases ht)⟩, fun _ => hw⟩, fun _ => ⟨rfl, (fun q => absurd rfl q), by simp⟩⟩
 | t :: L, st, hu, hw, hp, h0, h1 => by
  have M := main st t.1 t.2.1 t.2.2 hu hw hp
  have eD : dOf ns f st t.1 dp = D := by
   unfold dOf
   by_cases q : st.deep = 0
   · rw [if_pos q]; exact (h0 q t L rfl).symm
   · rw [if_neg q]; exact (h1 q).symm
  rw [eD] at M
  have e : runK ns f dp (t :: L) st = runK ns f dp L (goS ns f st t.1 dp t.2.1 t.2.2) := rfl
  rw [e]
  have em : ((t :: L).map (·.1)).foldlM (fun s k => lnk ns f s k) st.seen = (lnk ns f st.seen t.1).bind (fun s => (L.map (·.1)).foldlM (fun s k => lnk ns f s k) s) := by
   rw [List.map_cons, List.foldlM_cons]; rfl
  rw [em]
  generalize goS ns f st t.1 dp t.2.1 t.2.2 = st' at M
  cases hw' : st'.wrong with
  | true =>
   have hr := runK_wrong ns f dp L st' hw'
   refine ⟨⟨fun q => absurd (hr.symm.trans q) (by simp), ?_⟩, fun q => absurd (hr.symm.trans q) (by simp)⟩
   rintro ⟨⟨sd, hs⟩, hi, hv⟩
   exfalso
   have : st'.wrong = false := by
    refine M.iff.2 ⟨?_, hi t (by simp), hv t (by simp)⟩
    cases hl : lnk ns f st.seen t.1 with
    | none => rw [hl] at hs; cases hs
    | some s1 => exact ⟨s1, rfl⟩
   rw [hw'] at this
   cases this
  | false =>
   have hl := M.seen hw'
   have hd := M.deep hw'
   have ha := M.all hw'
   have hq := M.iff.1 hw'
   have hm := lnk_mono ns f _ _ _ hl
   have K := kids_well ns f dp D hD main L st' (by omega) hw' (by rw [hd]; omega) (fun q => by rw [hd] at q; omega) (fun _ => hd.symm)
   rw [hl]
   simp only [Option.bind_some]
   refine ⟨⟨fun q => ?_, ?_⟩, fun q => ?_⟩
   · obtain ⟨k1, k2, k3⟩ := K.1.1 q
     refine ⟨k1, fun u hu => ?_, fun u hu => ?_⟩
     · rcases List.mem_cons.1 hu with rfl | hu
       · exact hq.2.1
       · exact k2 u hu
     · rcases List.mem_cons.1 hu with rfl | hu
       · exact hq.2.2
       · exact k3 u hu
   · rintro ⟨k1, k2, k3⟩
     exact K.1.2 ⟨k1, fun u hu => k2 u (List.mem_cons_of_mem _ hu), fun u hu => k3 u (List.mem_cons_of_mem _ hu)⟩
   · obtain ⟨k1, k2, k3⟩ := K.2 q
     refine ⟨k1, fun _ => ?_, by rw [k3, ha]; simp⟩
     cases L with
     | nil => exact hd
     | cons u L => exact k2 (by simp)
def kidsOf (d : Nd) (lo hi : Option En) : List Kid := (List.range d.ks.length).map (fun i => (d.ks.getD i 0, lowAt d.es lo i, highAt d.es hi i))
theorem kids_nums (d : Nd) (lo hi : Option En) : (kidsOf d lo hi).map (·.1) = d.ks := by
 unfold kidsOf
 rw [List.map_map]
 refine List.ext_getElem (by simp) (fun i h1 h2 => ?_)
 simp [List.getD, h2]
theorem goS_well (ns : List Nd) : ∀ (f : Nat) (st : St) (x deep : Int) (lo hi : Option En), 0 < deep → unseen st.seen < f → st.wrong = false → 0 ≤ st.deep → Well ns f st x deep lo hi (dOf ns f st x deep) (goS ns f st x deep lo hi)
 | 0, st, x, deep, lo, hi, _, h, _, _ => by omega
 | f + 1, st, x, deep, lo, hi, hdp, hu, hw, hd0 => by
  have hbad : ∀ (D : Int) (R : St), R.wrong = true → ¬ ((∃ sd, lnk ns (f + 1) st.seen x = some sd) ∧ ino ns (f + 1) x lo hi = true ∧ lvs ns (f + 1) x (D - deep + 1) = true) → Well ns (f + 1) st x deep lo hi D R := fun D R hR hn =>
   ⟨⟨fun q => absurd (hR.symm.trans q) (by simp), fun q => absurd q hn⟩, fun q => absurd (hR.symm.trans q) (by simp), fun q => absurd (hR.symm.trans q) (by simp), fun q => absurd (hR.symm.trans q) (by simp)⟩
  rw [goS]
  cases ho : outB ns st.seen x with
  | true =>
   rw [Bool.or_true, if_pos rfl]
   refine hbad _ _ rfl (fun ⟨⟨sd, h1⟩, _, _⟩ => ?_)
   rw [lnk, ho, Bool.true_or, if_pos rfl] at h1
   cases h1
  | false =>
   obtain ⟨hx0, hx1, hs⟩ := outB_no ho
   rw [hw, Bool.or_false, if_neg (by simp)]
   have hlnk : lnk ns (f + 1) st.seen x = if (!formOk (ns.getD x.toNat nd0)) = true then none else (ns.getD x.toNat nd0).ks.foldlM (fun s k => lnk ns f s k) (st.seen.set x.toNat true) := by
    rw [lnk, ho, Bool.false_or]
   have hino : ino ns (f + 1) x lo hi = (nodeOk lo hi (ns.getD x.toNat nd0).es && (List.range (ns.getD x.toNat nd0).ks.length).all (fun i => ino ns f ((ns.getD x.toNat nd0).ks.getD i 0) (lowAt (ns.getD x.toNat nd0).es lo i) (highAt (ns.getD x.toNat nd0).es hi i))) := by rw [ino]
   have hlvs : ∀ h, lvs ns (f + 1) x h = if (ns.getD x.toNat nd0).leaf = true then decide (h = 1) else (ns.getD x.toNat nd0).ks.all (fun k => lvs ns f k (h - 1)) := fun h => by rw [lvs]
   have hhgt : hgt ns (f + 1) x = if (ns.getD x.toNat nd0).leaf = true then 1 else 1 + hgt ns f ((ns.getD x.toNat nd0).ks.getD 0 0) := by rw [hgt]
   have hlfs : lfs ns (f + 1) x = if (ns.getD x.toNat nd0).leaf = true then (ns.getD x.toNat nd0).es else ((ns.getD x.toNat nd0).ks.map (fun k => lfs ns f k)).flatten := by rw [lfs]
   have hun := unseen_set st.seen x.toNat hs
   generalize ns.getD x.toNat nd0 = d at hlnk hino hlvs hhgt hlfs ⊢
   simp only
   by_cases h4 : 4 < d.es.length
   · rw [if_pos (decide_eq_true h4)]
     refine hbad _ _ rfl (fun ⟨⟨sd, h1⟩, _, _⟩ => ?_)
     have : formOk d = false := by
      unfold formOk
      split
      · exact decide_eq_false (fun q => by omega)
      · exact decide_eq_false (fun q => by omega)
     rw [hlnk, this, Bool.not_false, if_pos rfl] at h1
     cases h1
   rw [if_neg (by simpa using h4)]
   cases hno : nodeOk lo hi d.es with
   | false =>
    rw [Bool.not_false, if_pos rfl]
    refine hbad _ _ rfl (fun ⟨_, h2, _⟩ => ?_)
    rw [hino, hno, Bool.false_and] at h2
    cases h2
   | true =>
    rw [Bool.not_true, if_neg (by simp)]
    cases hlf : d.leaf with
    | true =>
     rw [hlf, if_pos rfl] at hhgt hlfs
     rw [if_pos rfl]
     have hD : dOf ns (f + 1) st x deep = if st.deep = 0 then deep else st.deep := by unfold dOf; rw [hhgt]; split <;> omega
     rw [hD]
     have hlv : ∀ h, lvs ns (f + 1) x h = decide (h = 1) := fun h => by rw [hlvs, hlf, if_pos rfl]
     generalize (if st.deep = 0 then deep else st.deep) = D
     by_cases hk : d.ks.length = 0
     · have hks : d.ks = [] := List.length_eq_zero_iff.1 hk
       have hf : formOk d = true := by unfold formOk; rw [hlf, if_pos rfl]; exact decide_eq_true ⟨by omega, hk⟩
       have hl2 : lnk ns (f + 1) st.seen x = some (st.seen.set x.toNat true) := by rw [hlnk, hf, Bool.not_true, if_neg (by simp), hks]; rfl
       have hi2 : ino ns (f + 1) x lo hi = true := by rw [hino, hno, hks]; simp
       refine ⟨?_, fun _ => hl2, fun _ => rfl, fun _ => by rw [hlfs]⟩
       simp only
       rw [hl2, hi2, hlv, hk]
       simp
       constructor
       · intro q; omega
       · intro q; omega
     · refine hbad _ _ ?_ (fun ⟨⟨sd, h1⟩, _, _⟩ => ?_)
       · simp only
         rw [decide_eq_true (show 0 < d.ks.length by omega), Bool.or_true]
       · have : formOk d = false := by unfold formOk; rw [hlf, if_pos rfl]; exact decide_eq_false (fun q => hk q.2)
         rw [hlnk, this, Bool.not_false, if_pos rfl] at h1
         cases h1
    | false =>
     rw [hlf, if_neg (by simp)] at hhgt hlfs
     rw [if_neg (by simp)]
     have hlv : ∀ h, lvs ns (f + 1) x h = d.ks.all (fun k => lvs ns f k (h - 1)) := fun h => by rw [hlvs, hlf, if_neg (by simp)]
     by_cases hb : 1 ≤ d.es.length ∧ d.ks.length = d.es.length + 1
     · have hf : formOk d = true := by unfold formOk; rw [hlf, if_neg (by simp)]; exact decide_eq_true ⟨hb.1, by omega, hb.2⟩
       have hc : (decide (d.es.length < 1) || decide (d.ks.length ≠ d.es.length + 1)) = false := by rw [decide_eq_false (by omega), decide_eq_false (by omega)]; rfl
       rw [hc, if_neg (by simp)]
       have efold : (List.range d.ks.length).foldl (fun s i => goS ns f s (d.ks.getD i 0) (deep + 1) (lowAt d.es lo i) (highAt d.es hi i)) ⟨st.seen.set x.toNat true, st.deep, false, st.all⟩ = runK ns f (deep + 1) (kidsOf d lo hi) ⟨st.seen.set x.toNat true, st.deep, false, st.all⟩ := by
        unfold runK kidsOf
        rw [List.foldl_map]
       rw [efold]
       have hD : dOf ns (f + 1) st x deep = if st.deep = 0 then deep + 1 + hgt ns f (d.ks.getD 0 0) - 1 else st.deep := by unfold dOf; rw [hhgt]; split <;> omega
       have hp := hgt_pos ns f (d.ks.getD 0 0)
       have hDp : 0 < dOf ns (f + 1) st x deep := by rw [hD]; split <;> omega
       have hhead : ∀ t L', kidsOf d lo hi = t :: L' → t.1 = d.ks.getD 0 0 := fun t L' e => by
        have e2 := kids_nums d lo hi
        rw [e] at e2
        simp only [List.map_cons] at e2
        rw [← e2]; rfl
       obtain ⟨D, hDe⟩ : ∃ D, dOf ns (f + 1) st x deep = D := ⟨_, rfl⟩
       rw [hDe] at hD hDp ⊢
       have K := kids_well ns f (deep + 1) D hDp (fun s y l h hs1 hs2 hs3 => goS_well ns f s y (deep + 1) l h (by omega) hs1 hs2 hs3) (kidsOf d lo hi) ⟨st.seen.set x.toNat true, st.deep, false, st.all⟩ (by simp only; omega) rfl hd0 (fun q t L' e => by rw [hD, if_pos q, hhead t L' e]) (fun q => by rw [hD, if_neg q])
       rw [kids_nums] at K
       have hl2 : lnk ns (f + 1) st.seen x = d.ks.foldlM (fun s k => lnk ns f s k) (st.seen.set x.toNat true) := by rw [hlnk, hf, Bool.not_true, if_neg (by simp)]
       have hi2 : ino ns (f + 1) x lo hi = true ↔ ∀ t ∈ kidsOf d lo hi, ino ns f t.1 t.2.1 t.2.2 = true := by
        rw [hino, hno, Bool.true_and, List.all_eq_true]
        unfold kidsOf
        constructor
        · intro q t ht
          obtain ⟨i, hi', rfl⟩ := List.mem_map.1 ht
          exact q i hi'
        · intro q i hi'
          exact q _ (List.mem_map.2 ⟨i, hi', rfl⟩)
       have hv2 : lvs ns (f + 1) x (D - deep + 1) = true ↔ ∀ t ∈ kidsOf d lo hi, lvs ns f t.1 (D - (deep + 1) + 1) = true := by
        rw [hlv, List.all_eq_true, show D - deep + 1 - 1 = D - (deep + 1) + 1 by omega]
        constructor
        · intro q t ht
          refine q t.1 ?_
          rw [← kids_nums d lo hi]
          exact List.mem_map.2 ⟨t, ht, rfl⟩
        · intro q k hk
          rw [← kids_nums d lo hi] at hk
          obtain ⟨t, ht, rfl⟩ := List.mem_map.1 hk
          exact q t ht
       have hne : kidsOf d lo hi ≠ [] := fun e => by
        have := kids_nums d lo hi
        rw [e] at this
        have h0 : d.ks.length = 0 := by rw [← this]; rfl
        omega
       refine ⟨?_, fun q => ?_, fun q => (K.2 q).2.1 hne, fun q => ?_⟩
       · rw [K.1, hl2, hi2, hv2]
       · rw [hl2]; exact (K.2 q).1
       · rw [(K.2 q).2.2, hlfs]
         congr 2
         rw [← kids_nums d lo hi, List.map_map]
         rfl
     · have hc : (decide (d.es.length < 1) || decide (d.ks.length ≠ d.es.length + 1)) = true := by
        by_cases q : d.es.length < 1
        · rw [decide_eq_true q]; rfl
        · rw [decide_eq_true (show d.ks.length ≠ d.es.length + 1 from fun e => hb ⟨by omega, e⟩), Bool.or_true]
       rw [hc, if_pos rfl]
       refine hbad _ _ rfl (fun ⟨⟨sd, h1⟩, _, _⟩ => ?_)
       have : formOk d = false := by unfold formOk; rw [hlf, if_neg (by simp)]; exact decide_eq_false (fun q => hb ⟨q.1, q.2.2⟩)
       rw [hlnk, this, Bool.not_false, if_pos rfl] at h1
       cases h1
end Go.Proofs.Ytphmlndkjgldkaa
