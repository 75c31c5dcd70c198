/- Texts of this proof in one: Uy11 Vb11 Va11. -/
import Derived.Test.YtlkoghdajpbffaaGreatUx11
import Derived.Test.YtlkoghdajpbffaaGreatMgw
/- What stands in memory at l11down, more: a call below, a box that is written, the node taken anew; plain: what is taken in below leaves a node alone that is not on the way. No conditions. -/

namespace Go.Proofs.YtlkoghdajpbffaaGreat
open Go.RowKit
set_option maxRecDepth 100000
section
variable {A : Nat → Prop} {w W W' : World} {b pT G0 p5 p6 p8 : Nat} {E Z : Array Value} {root : Int} {G N c : Nat} {ds : List Nd} {ys : List (Value × Value)} {y : Value × Value} {d : Nd}
theorem DS.call (h : DS A w b pT G0 p5 p6 p8 E Z root G N c ds ys y d W) {A2 : Nat → Prop} {r : List Nd × Option (En × Int)} {e : Ending} (hd : DownR A2 W W' pT b root G r e) (hA : ∀ g, A g → A2 g) : ∃ G' c' ys', DS A w b pT G0 p5 p6 p8 E Z root G' r.1.length c' r.1 ys' y d W' ∧ ShunsD A2 ys' r.1.length := by
 obtain ⟨g1, g2, g3, g4, g5⟩ := h.gne
 obtain ⟨G', c', ys', t1, t2, t3, t4⟩ := hd.ex
 obtain ⟨cs, fz, e1⟩ := h.gty
 have hp := h.pos
 have key : ∀ {k : Nat} {o : Obj}, W.heap[k]? = some o → k ≠ pT → k ≠ G → W'.heap[k]? = some o := fun e h1 h2 => (hd.kp.block _ (qL e) (fun q => by rcases q with q | q; exact h1 q; exact h2 q)).trans e
 have kn : KN W W' := hd.kp.mono (fun k _ q => by
  rcases q with rfl | rfl
  · exact ⟨_, _, _, h.tr, .inr rfl⟩
  · exact ⟨_, _, _, e1, .inl rfl⟩)
 refine ⟨G', c', ys', ⟨t1, rfl, t2, key h.r5 (by omega) (Ne.symm g1), key h.r6 (by omega) (Ne.symm g2), key h.r8 (by omega) (Ne.symm g3), h.nd.kn kn, h.kp.trans hd.kp (fun k hk q => ?_), ⟨hp.1, hp.2.1, hp.2.2.1, Nat.lt_of_lt_of_le hp.2.2.2.1 hd.kp.size, hp.2.2.2.2⟩, ?_, fun i hi g hg ha => t3 i hi g hg (hA g ha), h.ay⟩, t3⟩
 · rcases q with q | q
   · exact .inl q
   · rcases h.gg with ⟨q1, _⟩ | q1
     · exact .inr (q.trans q1)
     · omega
 · rcases t4 with rfl | q
   · exact h.gg
   · exact .inr (by omega)
theorem DS.box (h : DS A w b pT G0 p5 p6 p8 E Z root G N c ds ys y d W) {p : Nat} {cu : Array Value} {fz : Nat × Nat} (hp : W.heap[p]? = some (.cells cu 48 fz)) (h1 : p8 < p) (h2 : ShunsD (fun g => g = p) ys ds.length) (h3 : Shuns (fun g => g = p) y.1) (cs : Array Value) : DS A w b pT G0 p5 p6 p8 E Z root G N c ds ys y d (W.setRow p cs) := by
 have g := row_grown11 W p cs
 have hq := h.pos
 have key : ∀ {k : Nat} {o : Obj}, W.heap[k]? = some o → k ≠ p → (W.setRow p cs).heap[k]? = some o := fun e hne => (g.block _ (qL e) (fun q => hne (by first | exact Option.some.inj q | exact (Option.some.inj q).symm))).trans e
 refine ⟨key h.tr (by omega), h.len, ⟨h.nsr.len, own_box h.nsr.own hp (.inl (by decide)) g, fun i hi => (h.nsr.nd i hi).box hp (fun e => h2 i hi p e rfl) g⟩, key h.r5 (by omega), key h.r6 (by omega), key h.r8 (by omega), h.nd.box hp (fun e => h3 p e rfl) g, h.kp.trans (Kept.of_grown g) (fun k hk q => by have := Option.some.inj q; omega), ⟨hq.1, hq.2.1, hq.2.2.1, Nat.lt_of_lt_of_le hq.2.2.2.1 g.size, hq.2.2.2.2⟩, h.gg, h.av, h.ay⟩
theorem DS.fresh (h : DS A w b pT G0 p5 p6 p8 E Z root G N c ds ys y d W) {p : Nat} (hp : W.heap.size ≤ p) : ShunsD (fun g => g = p) ys ds.length ∧ Shuns (fun g => g = p) y.1 := by
 refine ⟨fun i hi g e q => ?_, fun g e q => ?_⟩
 · obtain ⟨bb, xx, o⟩ := (h.nsr.nd i hi).es
   have := (o.own.lt g e).2
   omega
 · obtain ⟨bb, xx, o⟩ := h.nd.es
   have := (o.own.lt g e).2
   omega
theorem DS.again (h : DS A w b pT G0 p5 p6 p8 E Z root G N c ds ys y d W) {x : Nat} (hx : x < N) : DS A w b pT G0 p5 p6 p8 E Z root G N c ds ys (ys.getD x nilP) (ds.getD x nd0) (W.setRow p8 #[.bool (ds.getD x nd0).leaf, (ys.getD x nilP).1, (ys.getD x nilP).2]) := by
 obtain ⟨g1, g2, g3, g4, g5⟩ := h.gne
 have g := row_grown11 W p8 #[.bool (ds.getD x nd0).leaf, (ys.getD x nilP).1, (ys.getD x nilP).2]
 have hq := h.pos
 have hxl : x < ds.length := by rw [h.len]; exact hx
 have kn : KN W (W.setRow p8 #[.bool (ds.getD x nd0).leaf, (ys.getD x nilP).1, (ys.getD x nilP).2]) := KN.grown g (fun k q => by obtain rfl := Option.some.inj q; exact ⟨_, _, _, h.r8, .inl rfl⟩)
 have key : ∀ {k : Nat} {o : Obj}, W.heap[k]? = some o → k ≠ p8 → (W.setRow p8 #[.bool (ds.getD x nd0).leaf, (ys.getD x nilP).1, (ys.getD x nilP).2]).heap[k]? = some o := fun e hne => (g.block _ (qL e) (fun q => hne (by first | exact Option.some.inj q | exact (Option.some.inj q).symm))).trans e
 refine ⟨key h.tr (by omega), h.len, ⟨h.nsr.len, h.nsr.own.kept g (.inr (fun e => g3 (by first | exact Option.some.inj e | exact (Option.some.inj e).symm))), fun i hi => (h.nsr.nd i hi).kn kn⟩, key h.r5 (by omega), key h.r6 (by omega), setRow_heap _ _ _ _ _ _ h.r8, (h.nsr.nd x hxl).kn kn, h.kp.trans (Kept.of_grown g) (fun k hk q => by have := Option.some.inj q; omega), ⟨hq.1, hq.2.1, hq.2.2.1, Nat.lt_of_lt_of_le hq.2.2.2.1 g.size, hq.2.2.2.2⟩, h.gg, h.av, h.av x hxl⟩
end
/-! Plain. -/
theorem lay_other (ns : List Nd) (x : Int) (d : Nd) (i : Nat) (hi : i < ns.length) (hx : x.toNat ≠ i) : (layN ns x d).1.getD i nd0 = ns.getD i nd0 := by
 unfold layN
 split
 · simp only [List.getD, List.getElem?_set_ne hx]
 · dsimp only
   rw [getD_app, if_pos (by rw [List.length_set]; exact hi)]
   simp only [List.getD, List.getElem?_set_ne hx]
theorem lay_len (ns : List Nd) (x : Int) (d : Nd) : ns.length ≤ (layN ns x d).1.length ∧ (layN ns x d).1.length ≤ ns.length + 1 := by
 unfold layN
 split
 · dsimp only; rw [List.length_set]; omega
 · dsimp only; rw [List.length_append, List.length_set, List.length_singleton]; omega
theorem down_len : ∀ (f : Nat) (ns : List Nd) (x : Int) (e : En), ns.length ≤ (downS f ns x e).1.length ∧ (downS f ns x e).1.length ≤ ns.length + f
 | 0, ns, x, e => by rw [downS]; exact ⟨Nat.le_refl _, Nat.le_refl _⟩
 | f + 1, ns, x, e => by
  rw [downS]
  split
  · have := lay_len ns x (takeN (ns.getD x.toNat nd0) (upsB (ns.getD x.toNat nd0).es e) e 0); omega
  · have ih := down_len f ns ((ns.getD x.toNat nd0).ks.getD (upsB (ns.getD x.toNat nd0).es e) 0) e
    generalize downS f ns ((ns.getD x.toNat nd0).ks.getD (upsB (ns.getD x.toNat nd0).es e) 0) e = r at *
    rcases r with ⟨ns1, _ | ⟨up, k⟩⟩
    · dsimp only at ih ⊢; omega
    · dsimp only at ih ⊢
      have := lay_len ns1 x (takeN (ns1.getD x.toNat nd0) (upsB (ns.getD x.toNat nd0).es e) up k); omega
theorem down_same (i : Nat) : ∀ (f : Nat) (ns : List Nd) (x : Int) (e : En), i < ns.length → (∀ p ∈ wayW ns f x e, p.1.toNat ≠ i) → (downS f ns x e).1.getD i nd0 = ns.getD i nd0
 | 0, _, _, _, _, _ => rfl
 | f + 1, ns, x, e, hi, hw => by
  rw [wayW] at hw
  have h1 := hw (x, upsB (ns.getD x.toNat nd0).es e) (List.mem_cons_self ..)
  rw [downS]
  cases hl : (ns.getD x.toNat nd0).leaf with
  | true => rw [if_pos rfl]; exact lay_other _ _ _ _ hi h1
  | false =>
   rw [if_neg (by simp)]
   have ih := down_same i f ns ((ns.getD x.toNat nd0).ks.getD (upsB (ns.getD x.toNat nd0).es e) 0) e hi (fun p hp => hw p (List.mem_cons_of_mem _ (by rw [hl, if_neg (by simp)]; exact hp)))
   have il := down_len f ns ((ns.getD x.toNat nd0).ks.getD (upsB (ns.getD x.toNat nd0).es e) 0) e
   generalize downS f ns ((ns.getD x.toNat nd0).ks.getD (upsB (ns.getD x.toNat nd0).es e) 0) e = r at *
   rcases r with ⟨ns1, _ | ⟨up, k⟩⟩
   · exact ih
   · dsimp only at ih il ⊢
     rw [lay_other _ _ _ _ (by omega) h1]
     exact ih
def SmE (M : Nat) (es : List En) : Prop := ∀ j, (es.getD j en0).Z.length ≤ M
def SmN (M : Nat) (ns : List Nd) : Prop := ∀ i, SmE M (ns.getD i nd0).es
theorem SmE.take {M : Nat} {es : List En} (h : SmE M es) (k : Nat) : SmE M (es.take k) := fun j => by
 by_cases hj : j < k
 · rw [show (es.take k).getD j en0 = es.getD j en0 by simp [List.getD, hj]]; exact h j
 · rw [show (es.take k).getD j en0 = en0 by simp [List.getD, List.getElem?_take, hj]]; simp [en0]
theorem SmE.drop {M : Nat} {es : List En} (h : SmE M es) (k : Nat) : SmE M (es.drop k) := fun j => by
 rw [show (es.drop k).getD j en0 = es.getD (k + j) en0 by simp [List.getD, List.getElem?_drop]]; exact h _
theorem SmE.put {M : Nat} {es : List En} (h : SmE M es) {e : En} (he : e.Z.length ≤ M) {i : Nat} (hi : i ≤ es.length) : SmE M (putL es i e) := fun j => by
 rw [getD_put _ _ _ _ hi]
 split
 · exact h j
 · split
   · exact he
   · exact h _
theorem lay_sm {M : Nat} {ns : List Nd} (h : SmN M ns) (x : Int) {d : Nd} (hd : SmE M d.es) : SmN M (layN ns x d).1 ∧ ∀ up k, (layN ns x d).2 = some (up, k) → up.Z.length ≤ M ∧ k = ns.length := by
 have hset : ∀ d' : Nd, SmE M d'.es → SmN M (ns.set x.toNat d') := fun d' hd' i => by
  by_cases hi : x.toNat = i
  · subst hi
    by_cases hx : x.toNat < ns.length
    · rw [show (ns.set x.toNat d').getD x.toNat nd0 = d' by simp [List.getD, hx]]; exact hd'
    · rw [List.set_eq_of_length_le (Nat.le_of_not_lt hx)]; exact h _
  · rw [show (ns.set x.toNat d').getD i nd0 = ns.getD i nd0 by simp only [List.getD, List.getElem?_set_ne hi]]; exact h i
 unfold layN
 split
 · exact ⟨hset d hd, fun up k e => by cases e⟩
 · refine ⟨fun i => ?_, fun up k e => ?_⟩
   · dsimp only
     rw [getD_app]
     split
     · exact hset (lowN d) (by unfold lowN; exact hd.take 2) i
     · by_cases h0 : i - (ns.set x.toNat (lowN d)).length = 0
       · rw [h0]
         show SmE M (moreN d).es
         unfold moreN
         split
         · exact hd.drop 2
         · exact hd.drop 3
       · rw [show ([moreN d] : List Nd).getD (i - (ns.set x.toNat (lowN d)).length) nd0 = nd0 by
          obtain ⟨k, hk⟩ : ∃ k, i - (ns.set x.toNat (lowN d)).length = k + 1 := ⟨_, (Nat.succ_pred_eq_of_pos (Nat.pos_of_ne_zero h0)).symm⟩
          rw [hk]; rfl]
         intro j; simp [nd0, en0]
   · dsimp only at e
     cases e
     exact ⟨hd 2, rfl⟩
theorem down_sm {M : Nat} : ∀ (f : Nat) (ns : List Nd) (x : Int) (e : En), SmN M ns → e.Z.length ≤ M → (good ns f x) → (wayW ns f x e).Pairwise (fun a b => a.1.toNat ≠ b.1.toNat) → SmN M (downS f ns x e).1 ∧ ∀ up k, (downS f ns x e).2 = some (up, k) → up.Z.length ≤ M ∧ 0 ≤ k ∧ k ≤ ns.length + f
 | 0, ns, x, e, h, he, hg, _ => hg.elim
 | f + 1, ns, x, e, h, he, hg, hw => by
  obtain ⟨hf, h0, h1, hk⟩ := hg
  rw [downS]
  cases hl : (ns.getD x.toNat nd0).leaf with
  | true =>
   rw [if_pos rfl]
   obtain ⟨a1, a2⟩ := lay_sm h x (d := takeN (ns.getD x.toNat nd0) (upsB (ns.getD x.toNat nd0).es e) e 0) ((h x.toNat).put he (upsB_le _ _))
   exact ⟨a1, fun up k q => by obtain ⟨b1, b2⟩ := a2 up k q; exact ⟨b1, by omega, by omega⟩⟩
  | false =>
   rw [if_neg (by simp)]
   rw [wayW, hl, if_neg (by simp)] at hw
   obtain ⟨w1, w2⟩ := List.pairwise_cons.1 hw
   obtain ⟨q1, q2, q3⟩ := form_kids hf hl
   have hle := upsB_le (ns.getD x.toNat nd0).es e
   have ih := down_sm f ns ((ns.getD x.toNat nd0).ks.getD (upsB (ns.getD x.toNat nd0).es e) 0) e h he (hk _ (getD_mem11 (by omega))) w2
   have is := down_same x.toNat f ns ((ns.getD x.toNat nd0).ks.getD (upsB (ns.getD x.toNat nd0).es e) 0) e (by omega) (fun p hp => Ne.symm (w1 p hp))
   have il := down_len f ns ((ns.getD x.toNat nd0).ks.getD (upsB (ns.getD x.toNat nd0).es e) 0) e
   generalize downS f ns ((ns.getD x.toNat nd0).ks.getD (upsB (ns.getD x.toNat nd0).es e) 0) e = r at *
   rcases r with ⟨ns1, _ | ⟨up, k⟩⟩
   · exact ⟨ih.1, fun up k q => by cases q⟩
   · dsimp only at ih is il ⊢
     obtain ⟨u1, u2, u3⟩ := ih.2 up k rfl
     obtain ⟨a1, a2⟩ := lay_sm ih.1 x (d := takeN (ns1.getD x.toNat nd0) (upsB (ns.getD x.toNat nd0).es e) up k) ((ih.1 x.toNat).put u1 (by rw [is]; exact upsB_le _ _))
     exact ⟨a1, fun up k q => by obtain ⟨b1, b2⟩ := a2 up k q; exact ⟨b1, by omega, by omega⟩⟩
end Go.Proofs.YtlkoghdajpbffaaGreat
/- Trees, plain: what an entry leaves on its way down has its form; what TreeAdd answers where the entry is new. No program, no conditions. -/


namespace Go.Proofs.YtlkoghdajpbffaaGreat
open Go.RowKit
set_option maxRecDepth 100000
theorem up_form : ∀ (R : List (Int × Nat)) (ns : List Nd) (e : En) (k : Int), (∀ i, i < ns.length → formOk (ns.getD i nd0) = true) → (∀ p ∈ R, 0 ≤ p.1 ∧ p.1 < ns.length) → ∀ i, i < (upS R ns e k).1.length → formOk ((upS R ns e k).1.getD i nd0) = true
 | [], _, _, _, h, _ => h
 | (x, i) :: R, ns, e, k, h, hR => by
  have hx := hR _ (List.mem_cons_self ..)
  have s := ((UpI.start (R := [(x, i)]) h).step (j := 0) (x := x) rfl hx.1 hx.2 i e k).form
  have l := (lay_len ns x (takeN (ns.getD x.toNat nd0) i e k)).1
  rw [upS]
  generalize layN ns x (takeN (ns.getD x.toNat nd0) i e k) = u at s l
  obtain ⟨ns1, _ | ⟨up, k'⟩⟩ := u
  · exact s
  · exact up_form R ns1 up k' s (fun p hp => by have := hR p (List.mem_cons_of_mem _ hp); dsimp only at l; omega)
theorem form_at {ns : List Nd} {root : Int} (h : treeIs ns root = true) (i : Nat) (hi : i < ns.length) : formOk (ns.getD i nd0) = true := by
 obtain ⟨hg, -, hp⟩ := treeIs_parts h
 have := good_pos ns _ _ _ hg (hp i hi)
 rwa [Int.toNat_natCast] at this
theorem down_form {ns : List Nd} {root : Int} (e : En) (h : treeIs ns root = true) : ∀ i, i < (downS (ns.length + 1) ns root e).1.length → formOk ((downS (ns.length + 1) ns root e).1.getD i nd0) = true := by
 have hg := (treeIs_parts h).1
 rw [down_up (ns.length + 1) ns root e 0 hg]
 refine up_form _ _ _ _ (form_at h) (fun p hp => ?_)
 exact ((way_steps (ns := ns) e _ _ hg).1 p (List.mem_reverse.1 hp)).1
theorem form_le {d : Nd} (h : formOk d = true) : d.es.length ≤ 4 ∧ d.ks.length ≤ 5 := by
 cases hl : d.leaf with
 | true => have := form_leaf h hl; omega
 | false => have := form_kids h hl; omega
theorem forms_le {ns : List Nd} (h : ∀ i, i < ns.length → formOk (ns.getD i nd0) = true) (i : Nat) : (ns.getD i nd0).es.length ≤ 4 ∧ (ns.getD i nd0).ks.length ≤ 5 := by
 by_cases hi : i < ns.length
 · exact form_le (h i hi)
 · rw [show ns.getD i nd0 = nd0 by simp [List.getD, List.getElem?_eq_none (Nat.le_of_not_lt hi)]]
   exact ⟨by simp [nd0], by simp [nd0]⟩
theorem root_form {ns : List Nd} (h : ∀ i, i < ns.length → formOk (ns.getD i nd0) = true) (up : En) (a k : Int) : ∀ i, i < (ns ++ [(⟨false, [up], [a, k]⟩ : Nd)]).length → formOk ((ns ++ [(⟨false, [up], [a, k]⟩ : Nd)]).getD i nd0) = true := fun i hi => by
 rw [getD_snoc11]
 rw [List.length_append, List.length_singleton] at hi
 split
 · exact h i (by assumption)
 · rw [if_pos (by omega)]; rfl
theorem root_sm {M : Nat} {ns : List Nd} (h : SmN M ns) (up : En) (hu : up.Z.length ≤ M) (a k : Int) : SmN M (ns ++ [⟨false, [up], [a, k]⟩]) := fun i => by
 rw [getD_snoc11]
 split
 · exact h i
 · split
   · intro j
     cases j with
     | zero => exact hu
     | succ j => simp [en0]
   · intro j; simp [nd0, en0]
theorem addT_none {ns ns1 : List Nd} {root : Int} {q : En} (h : treeIs ns root = true) (he : entOk q = true) (hn : isAt ns root q = false) (hd : downS (ns.length + 1) ns root q = (ns1, none)) : addT ns root q = if 300 < ns1.length then ([], 0, false) else (ns1, root, true) := by
 unfold addT
 rw [if_pos (by rw [h, he, hn]; rfl), hd]
theorem addT_some {ns ns1 : List Nd} {root k : Int} {q up : En} (h : treeIs ns root = true) (he : entOk q = true) (hn : isAt ns root q = false) (hd : downS (ns.length + 1) ns root q = (ns1, some (up, k))) : addT ns root q = if 300 < (ns1 ++ [(⟨false, [up], [root, k]⟩ : Nd)]).length then ([], 0, false) else (ns1 ++ [⟨false, [up], [root, k]⟩], (ns1.length : Int), true) := by
 unfold addT
 rw [if_pos (by rw [h, he, hn]; rfl), hd, List.length_append, List.length_singleton]
theorem addT_not {ns : List Nd} {root : Int} {q : En} (h : (treeIs ns root && (entOk q && !isAt ns root q)) = false) : addT ns root q = ([], 0, false) := by unfold addT; rw [if_neg (by rw [h]; simp)]
theorem down_told {ns : List Nd} {root : Int} {q : En} (h : treeIs ns root = true) (hm : SmN 2097152 ns) (hq : q.Z.length ≤ 2097152) : (downS (ns.length + 1) ns root q).1.length ≤ 601 ∧ ns.length + (ns.length + 1) ≤ 700 ∧ SmN 2097152 (downS (ns.length + 1) ns root q).1 ∧ (∀ up k, (downS (ns.length + 1) ns root q).2 = some (up, k) → up.Z.length ≤ 2097152 ∧ 0 ≤ k ∧ k ≤ 1000) ∧ (wayW ns (ns.length + 1) root q).Pairwise (fun a b => a.1.toNat ≠ b.1.toNat) := by
 have hg := (treeIs_parts h).1
 obtain ⟨sd, sd', hk⟩ := treeIs_lnk h
 have hp := way_apart (ns := ns) q _ _ _ _ hk
 have hl := treeIs_len h
 have hd := down_len (ns.length + 1) ns root q
 obtain ⟨s1, s2⟩ := down_sm (ns.length + 1) ns root q hm hq hg hp
 exact ⟨by omega, by omega, s1, fun up k e => by obtain ⟨a1, a2, a3⟩ := s2 up k e; exact ⟨a1, a2, by omega⟩, hp⟩
end Go.Proofs.YtlkoghdajpbffaaGreat
/- The specification's l11down, by induction over the way, given its step at an inner node. Conditions: at most 700 nodes, texts of at most 2^21 bytes. -/

namespace Go.Proofs.YtlkoghdajpbffaaGreat
open Go.RowKit
set_option maxRecDepth 100000
def restS (ns : List Nd) (x : Nat) (e : En) (r : List Nd × Option (En × Int)) : List Nd × Option (En × Int) := match r with
 | (ns1, none) => (ns1, none)
 | (ns1, some (up, k)) => layN ns1 (x : Int) (takeN (ns1.getD x nd0) (upsB (ns.getD x nd0).es e) up k)
structure IHs (pT b : Nat) (root : Int) (ds : List Nd) (kn : Nat) (e : En) (r0 : List Nd × Option (En × Int)) : Prop where
 ok : ∀ {A : Nat → Prop} {w : World} {G0 N c : Nat} {ys : List (Value × Value)} {ax : Option Addr} {cx : Nat} (_ : w.heap[pT]? = some (.cells #[.slice (some ⟨G0, 0, none⟩) N c, .int .i64 root] 33)) (_ : ds.length = N) (_ : NsR w b (.slice (some ⟨G0, 0, none⟩) N c) ds ys) (_ : b ≤ w.heap.size) (_ : TxR w (.slice ax e.Z.length cx) e.Z) (_ : ∀ g, A g → g < w.heap.size) (_ : ShunsD A ys ds.length),
  Calls Tryz.prog 23 #[.pointer (some ⟨pT, 0, none⟩), .int .i64 (kn : Int), .agg #[.int .i64 e.K, .int .i64 e.N, .float .f64 e.F, .slice ax e.Z.length cx, .int .i64 e.id]] w fun r W => DownR A w W pT b root G0 r0 r
theorem DownR.ans {A : Nat → Prop} {w W : World} {pT b : Nat} {root : Int} {G : Nat} {r : List Nd × Option (En × Int)} {e : Ending} (h : DownR A w W pT b root G r e) : ∃ (q : En) (ax : Option Addr) (nx cx : Nat) (kk : Int), e = .returned (.tuple #[.agg #[.int .i64 q.K, .int .i64 q.N, .float .f64 q.F, .slice ax nx cx, .int .i64 q.id], .int .i64 kk]) ∧ ((r.2 = none ∧ kk = -1) ∨ (r.2 = some (q, kk) ∧ TxR W (.slice ax nx cx) q.Z ∧ q.F < 18446744073709551616)) := by
 rcases ho : r.2 with _ | ⟨q, kk⟩
 · exact ⟨en0, none, 0, 0, -1, h.no ho, .inl ⟨rfl, rfl⟩⟩
 · obtain ⟨ax, nx, cx, e1, e2, e3⟩ := h.yes q kk ho
   exact ⟨q, ax, nx, cx, kk, e1, .inr ⟨rfl, e2, e3⟩⟩
structure InnerS : Prop where
 ok : ∀ {pT b : Nat} {root : Int} {ds : List Nd} {e : En} (x kn : Nat) (r0 : List Nd × Option (En × Int)), ds.length ≤ 700 → x < ds.length → (ds.getD x nd0).leaf = false → formOk (ds.getD x nd0) = true → (∀ i j, ((ds.getD i nd0).es.getD j en0).Z.length ≤ 2097152) → e.F < 18446744073709551616 → e.Z.length ≤ 2097152 → (ds.getD x nd0).ks.getD (upsB (ds.getD x nd0).es e) 0 = (kn : Int) → IHs pT b root ds kn e r0 → r0.1.getD x nd0 = ds.getD x nd0 → (ds.length ≤ r0.1.length ∧ r0.1.length ≤ 700) → (∀ up k, r0.2 = some (up, k) → up.Z.length ≤ 2097152 ∧ 0 ≤ k ∧ k ≤ 1000) → IHs pT b root ds x e (restS ds x e r0)
theorem good_nat {ns : List Nd} : ∀ {f : Nat} {k : Int}, good ns f k → ∃ kn : Nat, k = (kn : Int)
 | 0, _, h => h.elim
 | _ + 1, _, ⟨_, h0, _, _⟩ => ⟨_, (Int.toNat_of_nonneg h0).symm⟩
theorem spec_l11down (H : InnerS) {pT b : Nat} {root : Int} {ds : List Nd} {e : En} (hm : SmN 2097152 ds) (hF : e.F < 18446744073709551616) (hZ : e.Z.length ≤ 2097152) : ∀ (f x : Nat), ds.length + f ≤ 700 → good ds f (x : Int) → (wayW ds f (x : Int) e).Pairwise (fun a b => a.1.toNat ≠ b.1.toNat) → IHs pT b root ds x e (downS f ds (x : Int) e)
 | 0, _, _, hg, _ => hg.elim
 | f + 1, x, hN, hg, hw => by
  obtain ⟨hf, h0, h1, hk⟩ := hg
  have hx : x < ds.length := by omega
  rw [Int.toNat_natCast] at hf hk
  rw [downS]
  rw [wayW] at hw
  simp only [Int.toNat_natCast] at hw ⊢
  cases hl : (ds.getD x nd0).leaf with
  | true =>
   rw [if_pos rfl]
   exact ⟨fun hT hl' hns hb he hA hav => spec_down_leaf hT hl' (by omega) hns hb (by omega) hl hf hm he hF hZ hA hav⟩
  | false =>
   rw [if_neg (by simp)]
   rw [hl, if_neg (by simp)] at hw
   obtain ⟨w1, w2⟩ := List.pairwise_cons.1 hw
   obtain ⟨q1, q2, q3⟩ := form_kids hf hl
   have hle := upsB_le (ds.getD x nd0).es e
   have hgk := hk _ (getD_mem11 (show upsB (ds.getD x nd0).es e < (ds.getD x nd0).ks.length by omega))
   obtain ⟨kn, hkn⟩ := good_nat hgk
   rw [hkn] at hgk w1 w2 ⊢
   have ih := spec_l11down H (pT := pT) (b := b) (root := root) hm hF hZ f kn (by omega) hgk w2
   have hlen := down_len f ds (kn : Int) e
   have hsame := down_same x f ds (kn : Int) e hx (fun p hp => Ne.symm (by have := w1 p hp; rwa [Int.toNat_natCast] at this))
   have hsm := (down_sm f ds (kn : Int) e hm hZ hgk w2).2
   exact H.ok x kn (downS f ds (kn : Int) e) (by omega) hx hl hf hm hF hZ hkn ih hsame ⟨hlen.1, by omega⟩ (fun up k q => by obtain ⟨a1, a2, a3⟩ := hsm up k q; exact ⟨a1, a2, by omega⟩)
end Go.Proofs.YtlkoghdajpbffaaGreat
