/- Texts of this proof in one: Ve14 Xa14 Ya14 Yb14 Xb14. -/
import Derived.Test.YtjcjoabblafboaaGreatMgc
import Derived.Test.YtjcjoabblafboaaGreatMgh
import Derived.Test.YtjcjoabblafboaaGreatMgl
import Derived.Test.YtjcjoabblafboaaGreatHz14
import Derived.Test.YtjcjoabblafboaaGreatMgb
import Derived.Test.YtjcjoabblafboaaGreatMgj
/- The order of pairs and the sort of a row of pairs. Conditions: none. -/


namespace Go.Proofs.YtjcjoabblafboaaGreat
open Go.RowKit
set_option maxRecDepth 100000
def or2V (c d : Int) : Int := if c ≠ 0 then c else d
set_option maxHeartbeats 1600000 in
theorem impl_or2V (c d : Int) {b off cap : Nat} {w : World} (h0 : w.cell? ⟨b, off, none⟩ = some (.int .i64 c)) (h1 : w.cell? ⟨b, off + 1, none⟩ = some (.int .i64 d)) :
 Calls Tryz.prog 90 #[.slice (some ⟨b, off, none⟩) 2 cap] w fun e w' => e = .returned (.int .i64 (or2V c d)) ∧ w' = w := by
 have HO := hid (show or2V c d = if c ≠ 0 then c else d from rfl)
 go_enter Tryz.func90, Tryz.ntmps90
 go_wp2_with fail
 go_loopw [8] (fun s8 wr => ∃ k : Nat, k ≤ 2 ∧ s8 = .int .i64 k ∧ (1 ≤ k → c = 0) ∧ (2 ≤ k → d = 0) ∧ wr = w) (fun i _ => 2 - (intOf i).toNat)
 case atStart => exact ⟨0, by omega, rfl, fun h => by omega, fun h => by omega, rfl⟩
 case round =>
  obtain ⟨k, hk, rfl, q1, q2, rfl⟩ := hrel
  rcases (show k = 0 ∨ k = 1 ∨ k = 2 by omega) with rfl | rfl | rfl
  · by_cases hc : c = 0
    · subst hc
      go_wp2_with fail
      go_roundw
      case rel => exact ⟨1, by omega, by go_num, fun _ => (by first | trivial | rfl), fun h => by omega, by trivial⟩
      case measure => simp [intOf]
    · have e0 := hid (show or2V c d = c by rw [HO.out, if_pos hc])
      have hc' : (c != 0) = true := by simp [hc]
      go_wp2_with fail
      go_ret
      exact ⟨by rw [e0.out]; rfl, rfl⟩
  · have hc := q1 (Nat.le_refl _)
    subst hc
    have e0 := hid (show or2V 0 d = d by rw [HO.out]; simp)
    by_cases hd : d = 0
    · subst hd
      go_wp2_with fail
      go_roundw
      case rel => exact ⟨2, by omega, by go_num, fun _ => (by first | trivial | rfl), fun _ => (by first | trivial | rfl), by trivial⟩
      case measure => simp [intOf]
    · have hd' : (d != 0) = true := by simp [hd]
      go_wp2_with fail
      go_ret
      exact ⟨by rw [e0.out]; rfl, rfl⟩
  · have hc := q1 (by omega)
    have hd := q2 (Nat.le_refl _)
    subst hc hd
    have e0 := hid (show or2V 0 0 = 0 by rw [HO.out]; simp)
    go_wp2_with fail
    go_ret
    exact ⟨by rw [e0.out]; rfl, rfl⟩
theorem new2V (w : World) (x y : Value) (T : TypeId) : (w.alloc (.cells #[x, y] T)).cell? ⟨w.heap.size, 0, none⟩ = some x ∧ (w.alloc (.cells #[x, y] T)).cell? ⟨w.heap.size, 0 + 1, none⟩ = some y :=
 ⟨by rw [cell_of_row _ _ _ _ _ _ (heap_alloc_new w _)]; rfl, by rw [cell_of_row _ _ _ _ _ _ (heap_alloc_new w _)]; rfl⟩
set_option maxHeartbeats 6400000 in
theorem impl_pairCmp (a b c d : Int) (w : World) :
 Calls Tryz.prog 89 #[.agg #[.int .i64 a, .int .i64 b], .agg #[.int .i64 c, .int .i64 d]] w fun e w' => e = .returned (.int .i64 (or2V (ci a c) (ci b d))) ∧ Gw w w' := by
 have hG := hid (((Gw.refl w).alloc (.cells #[.int .i64 a, .int .i64 b] 33)).alloc (.cells #[.int .i64 c, .int .i64 d] 33))
 obtain ⟨R1, R2, z⟩ := two_rows13 w (.cells #[.int .i64 a, .int .i64 b] 33) (.cells #[.int .i64 c, .int .i64 d] 33)
 have C := hid (show (fun W : World => (W.cell? ⟨w.heap.size, 0, none⟩ = some (.int .i64 a) ∧ W.cell? ⟨w.heap.size, 1, none⟩ = some (.int .i64 b)) ∧ W.cell? ⟨w.heap.size + 1, 0, none⟩ = some (.int .i64 c) ∧ W.cell? ⟨w.heap.size + 1, 1, none⟩ = some (.int .i64 d)) ((w.alloc (.cells #[.int .i64 a, .int .i64 b] 33)).alloc (.cells #[.int .i64 c, .int .i64 d] 33)) from ⟨⟨by rw [cell_of_row _ _ _ _ _ _ R1]; rfl, by rw [cell_of_row _ _ _ _ _ _ R1]; rfl⟩, by rw [cell_of_row _ _ _ _ _ _ R2]; rfl, by rw [cell_of_row _ _ _ _ _ _ R2]; rfl⟩)
 clear R1 R2 z
 go_enter Tryz.func89, Tryz.ntmps89
 go_wp2_with fail
 generalize (w.alloc (.cells #[.int .i64 a, .int .i64 b] 33)).alloc (.cells #[.int .i64 c, .int .i64 d] 33) = w2 at *
 obtain ⟨⟨c0, c1⟩, d0, d1⟩ := C.out
 clear C
 go_region_held3 (fun W : World => (W.cell? ⟨w.heap.size, 0, none⟩ = some (.int .i64 a) ∧ W.cell? ⟨w.heap.size, 1, none⟩ = some (.int .i64 b)) ∧ W.cell? ⟨w.heap.size + 1, 0, none⟩ = some (.int .i64 c) ∧ W.cell? ⟨w.heap.size + 1, 1, none⟩ = some (.int .i64 d))
  (first
   | exact ⟨⟨by simpa using c0, by simpa using c1⟩, by simpa using d0, by simpa using d1⟩
   | exact ⟨⟨cell_oldx _ (by simpa using c0), cell_oldx _ (by simpa using c1)⟩, cell_oldx _ (by simpa using d0), cell_oldx _ (by simpa using d1)⟩)
  (first
  | (go_at_call 91; refine (impl_ordInt _ _ _).mono ?_; rintro e w3 ⟨rfl, rfl⟩)
  | (go_at_call 90; refine (impl_or2V (ci a c) (ci b d) (new2V w2.drew _ _ 3).1 (new2V w2.drew _ _ 3).2).mono ?_; rintro e w3 ⟨rfl, rfl⟩))
 go_wp2_with fail
 go_ret
 first | exact ⟨rfl, (hG.out.drew).alloc _⟩ | exact ⟨rfl, (hG.out.alloc _).drew⟩
def cfP (x y : Pr) : Int := or2V (ci (x.1 : Int) (y.1 : Int)) (ci (x.2 : Int) (y.2 : Int))
def ltP (x y : Pr) : Prop := x.1 < y.1 ∨ (x.1 = y.1 ∧ x.2 < y.2)
theorem cfP_lt (x y : Pr) : cfP x y < 0 ↔ ltP x y := by
 unfold cfP or2V ci ltP
 by_cases h1 : x.1 < y.1
 · have : (x.1 : Int) < (y.1 : Int) := by omega
   simp [this, h1]
 · by_cases h2 : y.1 < x.1
   · have a1 : ¬ (x.1 : Int) < (y.1 : Int) := by omega
     have a2 : (y.1 : Int) < (x.1 : Int) := by omega
     rw [if_neg a1, if_pos a2]
     constructor
     · intro h; simp at h
     · intro h; omega
   · have a1 : ¬ (x.1 : Int) < (y.1 : Int) := by omega
     have a2 : ¬ (y.1 : Int) < (x.1 : Int) := by omega
     rw [if_neg a1, if_neg a2, if_neg (by simp)]
     by_cases h3 : x.2 < y.2
     · rw [if_pos (by omega)]; constructor
       · intro _; omega
       · intro _; omega
     · rw [if_neg (by omega)]
       constructor
       · intro h; split at h <;> omega
       · intro h; omega
theorem encP_len (p : Pr) : (encP p).length = 2 := rfl
theorem encP_one (p : Pr) : ∀ v ∈ encP p, v.oneCell' = true := by
 intro v hv
 simp only [encP, List.mem_cons, List.not_mem_nil, or_false] at hv
 rcases hv with rfl | rfl <;> rfl
theorem sort_pairs {base : Nat} {a : Option Addr} {cap n : Nat} (l : List Pr) (hn : l.length = n) (w : World) (own : w.ownsRow base 33 2 (.slice a n cap) n (l.flatMap encP)) (hsz : n ≤ 2097152) :
 Calls Tryz.prog 88 #[.slice a n cap, .func (.func 89) #[] #[]] w fun e w' => e = .returned (.tuple #[]) ∧ ∃ l' : List Pr, l'.Perm l ∧ l'.Pairwise (fun x y => ¬ ltP y x) ∧ w'.ownsRow base 33 2 (.slice a n cap) n (l'.flatMap encP) ∧ w.grownBy w' (Value.ownBlock (.slice a n cap)) := by
 have eg : ∀ args w, (callFunc 89 args).run Tryz.prog w = .ok (.enter 89 args) w := enters_of Tryz.func89 (by kernel_rfl) rfl
 have hcon := sortOwnP sortPairs 2 (fun w => Tryz.isAgg33 w) (fun w => Tryz.sizeOf33 w) encP encP_len encP_one cfP (fun _ => True)
  (fun x _ => by rw [cfP_lt]; unfold ltP; omega) (fun x y z _ _ _ => by rw [cfP_lt, cfP_lt, cfP_lt]; unfold ltP; omega) (fun x y z _ _ _ => by rw [cfP_lt, cfP_lt, cfP_lt]; unfold ltP; omega) 89 #[] l hn (fun _ _ => trivial) w own eg
  (fun blk e W hW x y _ _ => impl_pairCmp (x.1 : Int) (x.2 : Int) (y.1 : Int) (y.2 : Int) W) (by omega)
 refine hcon.mono ?_
 rintro e w' ⟨he, l', hp, hs, ho, hgr⟩
 exact ⟨he, l', hp, hs.imp (fun {x y} h => by rw [cfP_lt] at h; exact h), ho, hgr⟩
theorem asc_eq : ∀ (l m : List Pr), l.Pairwise ltP → m.Pairwise ltP → (∀ p, p ∈ l ↔ p ∈ m) → l = m
 | [], [], _, _, _ => rfl
 | [], y :: m, _, _, h => by have := (h y).2 (by simp); cases this
 | x :: l, [], _, _, h => by have := (h x).1 (by simp); cases this
 | x :: l, y :: m, hl, hm, h => by
  rw [List.pairwise_cons] at hl hm
  have irr : ∀ a : Pr, ¬ ltP a a := fun a => by unfold ltP; omega
  have exy : x = y := by
   rcases List.mem_cons.1 ((h x).1 (by simp)) with e | e
   · exact e
   · rcases List.mem_cons.1 ((h y).2 (by simp)) with e' | e'
     · exact e'.symm
     · have q1 := hm.1 x e
       have q2 := hl.1 y e'
       unfold ltP at q1 q2
       omega
  subst exy
  rw [asc_eq l m hl.2 hm.2 (fun p => ?_)]
  constructor
  · intro hp
    rcases List.mem_cons.1 ((h p).1 (by simp [hp])) with e | e
    · subst e; exact absurd (hl.1 p hp) (irr p)
    · exact e
  · intro hp
    rcases List.mem_cons.1 ((h p).2 (by simp [hp])) with e | e
    · subst e; exact absurd (hm.1 p hp) (irr p)
    · exact e
theorem rowE_asc (ts : List Tk) (i m : Nat) : (rowE ts i m).Pairwise ltP := by
 unfold rowE
 rw [List.pairwise_map]
 exact List.Pairwise.imp (fun {a b} h => .inr ⟨rfl, h⟩) (List.Pairwise.filter _ List.pairwise_lt_range)
theorem prE_asc (ts : List Tk) (n : Nat) : ∀ m, (prE ts n m).Pairwise ltP
 | 0 => by simp [prE]
 | m + 1 => by
  rw [prE_succ, List.pairwise_append]
  refine ⟨prE_asc ts n m, rowE_asc ts m n, fun x hx y hy => ?_⟩
  have hx1 : x.1 < m := by
   unfold prE rowE at hx
   simp only [List.mem_flatMap, List.mem_map, List.mem_range] at hx
   obtain ⟨i, hi, j, _, rfl⟩ := hx
   exact hi
  have hy1 : y.1 = m := by
   unfold rowE at hy
   simp only [List.mem_map] at hy
   obtain ⟨j, _, rfl⟩ := hy
   rfl
  exact .inl (by omega)
end Go.Proofs.YtjcjoabblafboaaGreat
/- The ring, plain. Conditions: none. -/



namespace Go.Proofs.YtjcjoabblafboaaGreat
open Go.RowKit
set_option maxRecDepth 100000
def rgF (nx : Nat → Nat) : Nat → List Nat → Nat → List Nat
 | 0, _, _ => []
 | f + 1, W, p => if p ∈ W then W.drop (W.idxOf p) else rgF nx f (W ++ [p]) (nx p)
def nxE (ts : List Tk) (lf : List Bool) (p : Nat) : Nat := (ahV (prE ts ts.length ts.length) lf p).1.toNat
def lfS (ts : List Tk) : List Bool := (tkS ts.length (prE ts ts.length ts.length) ts.length [] (List.replicate ts.length true)).2
noncomputable def ringL (ts : List Tk) : List Nat := if deedsB ts = true then (match leftL ts with
 | [] => []
 | p :: _ => rgF (nxE ts (lfS ts)) (ts.length + 1) [] p) else []
theorem tkF_end (n : Nat) : ∀ (f : Nat) (R : Eds) (T L : List Nat), L.length ≤ f → ∀ x ∈ (tkF n f R T L).2.1, firstB (tkF n f R T L).2.2 n ((x : Nat) : Int) = false
 | 0, R, T, L, h, x, hx => by
  have : L = [] := List.length_eq_zero_iff.1 (by omega)
  subst this; cases hx
 | f + 1, R, T, L, h, x, hx => by
  unfold tkF at hx ⊢
  cases hf : L.findIdx? (fun x => firstB R n ((x : Nat) : Int)) with
  | none =>
   rw [hf] at hx
   rw [List.findIdx?_eq_none_iff] at hf
   simpa using hf x hx
  | some k =>
   rw [hf] at hx
   have hk := (List.findIdx?_eq_some_iff_getElem.1 hf).1
   exact tkF_end n f _ _ _ (by rw [List.length_append, List.length_take, List.length_drop]; omega) x hx
theorem least_same {R R' : Eds} (h : sameE R R') {n : Nat} {x r : Int} (q : leastP R n x r) : leastP R' n x r := by
 rcases q with ⟨e, q⟩ | ⟨k, e, hk, h1, h2⟩
 · exact .inl ⟨e, fun j hj z => q j hj ((h j x).2 z)⟩
 · exact .inr ⟨k, e, hk, (h k x).1 h1, fun j hj z => h2 j hj ((h j x).2 z)⟩
theorem nx_least {ts : List Tk} {R : Eds} {L : List Nat} {lf : List Bool} (h : InvT ts R L lf) {p : Nat} {r : Int} (hf : firstB R ts.length (p : Int) = false) (q : leastP R ts.length (p : Int) r) :
 r = ((nxE ts lf p : Nat) : Int) ∧ nxE ts lf p ∈ L ∧ (ahV (prE ts ts.length ts.length) lf p).1 = ((nxE ts lf p : Nat) : Int) := by
 have e1 := firstB_least q
 rcases q with ⟨rfl, q⟩ | ⟨k, rfl, hk, h1, h2⟩
 · rw [hf] at e1; cases e1
 · obtain ⟨g1, g2⟩ := (h.edg k _).1 h1
   obtain ⟨d', e, _, h3, h4⟩ := (edR_mem ts k _).1 g2
   have : p = d' := by omega
   subst this
   have hin : (k, p) ∈ prE ts ts.length ts.length := (prE_mem ts _ _ k p).2 ⟨hk, h3, h4⟩
   have htb : toB lf p (k, p) = true := by unfold toB; rw [((h.mem k).1 g1).2]; simp
   have key : ahV (prE ts ts.length ts.length) lf p = ((k : Int), true) := by
    unfold ahV
    cases hfd : (prE ts ts.length ts.length).find? (toB lf p) with
    | none =>
     rw [List.find?_eq_none] at hfd
     exact absurd htb (hfd _ hin)
    | some s =>
     have hs := List.find?_some hfd
     have hm := List.mem_of_find?_eq_some hfd
     rw [List.find?_eq_some_iff_getElem] at hfd
     obtain ⟨_, i, hi, hei, hno⟩ := hfd
     obtain ⟨s1, s2⟩ := s
     unfold toB at hs
     rw [Bool.and_eq_true, decide_eq_true_iff] at hs
     obtain ⟨rfl, hl⟩ := hs
     simp only at hl
     obtain ⟨m1, m2, m3⟩ := (prE_mem ts _ _ s1 s2).1 hm
     have hge : ¬ s1 < k := fun z => h2 s1 z ((h.edg s1 _).2 ⟨(h.mem s1).2 ⟨m1, hl⟩, (edR_mem ts s1 _).2 ⟨s2, rfl, m1, m2, m3⟩⟩)
     obtain ⟨j, hj, hej⟩ := List.getElem_of_mem hin
     have hle : s1 = k := by
      rcases Nat.lt_trichotomy j i with z | z | z
      · have := hno j z
        rw [hej, htb] at this; cases this
      · subst z
        rw [hei] at hej
        exact (Prod.mk.inj hej).1
      · have := List.pairwise_iff_getElem.1 (prE_asc ts ts.length ts.length) i j hi hj z
        rw [hei, hej] at this
        unfold ltP at this
        simp only at this
        omega
     rw [hle]
   unfold nxE
   rw [key]
   exact ⟨rfl, g1, rfl⟩
theorem inv_end (ts : List Tk) : ∃ R, sameE R (tkF ts.length ts.length (edR ts) [] (List.range ts.length)).2.2 ∧ InvT ts R (leftL ts) (lfS ts) ∧ ∀ x ∈ leftL ts, firstB R ts.length ((x : Nat) : Int) = false := by
 have h := tk_same (ts := ts) ts.length (T := []) (inv_start ts)
 refine ⟨_, fun q z => Iff.rfl, h.2.1, ?_⟩
 exact tkF_end ts.length ts.length (edR ts) [] (List.range ts.length) (by simp)
theorem rgF_in {nx : Nat → Nat} {f : Nat} {W : List Nat} {p : Nat} (h : p ∈ W) : rgF nx (f + 1) W p = W.drop (W.idxOf p) := by rw [rgF, if_pos h]
theorem rgF_on {nx : Nat → Nat} {f : Nat} {W : List Nat} {p : Nat} (h : p ∉ W) : rgF nx (f + 1) W p = rgF nx f (W ++ [p]) (nx p) := by rw [rgF, if_neg h]
def idxP (zs : List Int) (x r : Int) : Prop := (r = -1 ∧ ∀ j, j < zs.length → zs.getD j 0 ≠ x) ∨ ∃ k : Nat, r = (k : Int) ∧ k < zs.length ∧ zs.getD k 0 = x ∧ ∀ j, j < k → zs.getD j 0 ≠ x
theorem idx_of {W : List Nat} {p k : Nat} (hk : k < W.length) (h1 : (nI W).getD k 0 = (p : Int)) (h2 : ∀ j, j < k → (nI W).getD j 0 ≠ (p : Int)) : p ∈ W ∧ W.idxOf p = k := by
 have e1 : W[k] = p := by rw [nI_get hk] at h1; omega
 refine ⟨by rw [← e1]; exact List.getElem_mem hk, ?_⟩
 have hne : ∀ j (hj : j < k), W[j]'(by omega) ≠ p := fun j hj z => h2 j hj (by rw [nI_get (by omega), z])
 have hlt : W.idxOf p < W.length := List.idxOf_lt_length_iff.2 (by rw [← e1]; exact List.getElem_mem hk)
 have hg : W[W.idxOf p] = p := List.getElem_idxOf hlt
 rcases Nat.lt_trichotomy (W.idxOf p) k with z | z | z
 · exact absurd hg (hne _ z)
 · exact z
 · have := List.not_of_lt_findIdx (p := (· == p)) (xs := W) (i := k) (by exact z)
   simp [e1] at this
theorem idx_no {W : List Nat} {p : Nat} (h : ∀ j, j < W.length → (nI W).getD j 0 ≠ (p : Int)) : p ∉ W := fun z => by
 obtain ⟨j, hj, e⟩ := List.getElem_of_mem z
 exact h j hj (by rw [nI_get hj, e])
end Go.Proofs.YtjcjoabblafboaaGreat
/- Orders, plain: an order that keeps all edges is serial; the order that is taken keeps them. No program; the deeds are right. -/



namespace Go.Proofs.YtjcjoabblafboaaGreat
open Go.RowKit
set_option maxRecDepth 100000
section
variable {ts : List Tk} (hok : okDs ts)
include hok
theorem wr_key {p : Nat} (hp : p < ts.length) {x : Im} (hx : okM x = true) (h : wrB (ts.getD p tk0) x = true) : ∃ e, e ∈ (ts.getD p tk0).ws ∧ okM e = true ∧ cmpM e x = 0 := by
 have o := okDs_mem hok (getD_tk hp)
 rw [← hasM_wr o.2 hx] at h
 unfold hasM at h
 rw [List.any_eq_true] at h
 obtain ⟨e, he, q⟩ := h
 exact ⟨e, he, o.2 e he, by simpa using q⟩
theorem wr_one {p : Nat} (hp : p < ts.length) {x y : Im} (hx : okM x = true) (hy : okM y = true) (e : cmpM y x = 0) : wrB (ts.getD p tk0) x = wrB (ts.getD p tk0) y :=
 anyS_same (dupM_ok (okDs_mem hok (getD_tk hp)).2) hx hy e
theorem ed_ww {p q : Nat} (hp : p < ts.length) (hq : q < ts.length) {x : Im} (hx : okM x = true) (h1 : wrB (ts.getD p tk0) x = true) (h2 : wrB (ts.getD q tk0) x = true) (h : (ts.getD p tk0).ended < (ts.getD q tk0).ended) : edB ts p q = true := by
 obtain ⟨e, he, oe, ce⟩ := wr_key hok hp hx h1
 have hne : p ≠ q := fun z => by subst z; omega
 unfold edB
 rw [decide_eq_true hne, Bool.true_and, edgeB_iff]
 refine .inl ⟨e, he, .inl ⟨h, ?_⟩⟩
 rw [hasM_wr (okDs_mem hok (getD_tk hq)).2 oe, ← wr_one hok hq hx oe ce]
 exact h2
theorem ed_wr {p d : Nat} (hp : p < ts.length) (hd : d < ts.length) {x : Im} (hx : okM x = true) (h1 : wrB (ts.getD p tk0) x = true) (h2 : rdB (ts.getD d tk0) x = true) (h : (ts.getD p tk0).ended < (ts.getD d tk0).begun) (hne : p ≠ d) : edB ts p d = true := by
 obtain ⟨e, he, oe, ce⟩ := wr_key hok hp hx h1
 unfold edB
 rw [decide_eq_true hne, Bool.true_and, edgeB_iff]
 refine .inl ⟨e, he, .inr ⟨h, ?_⟩⟩
 rw [← rd_same hok hx oe ce hd]
 exact h2
theorem ed_rw {p d : Nat} (hp : p < ts.length) (hd : d < ts.length) {x : Im} (hx : okM x = true) (h1 : wrB (ts.getD p tk0) x = true) (h2 : rdB (ts.getD d tk0) x = true) (h : (ts.getD d tk0).begun < (ts.getD p tk0).ended) (hne : p ≠ d) : edB ts d p = true := by
 obtain ⟨e, he, oe, ce⟩ := wr_key hok hp hx h1
 unfold edB
 have hne' : d ≠ p := fun z => hne z.symm
 rw [decide_eq_true hne', Bool.true_and, edgeB_iff]
 refine .inr ⟨e, he, h, ?_⟩
 rw [← rd_same hok hx oe ce hd]
 exact h2
end
theorem lastW_same {A B : List Int} {la lb : Int} : ∀ (W : List Nat) (l : Int), (l = -1 ∨ ∃ q : Nat, l = (q : Int) ∧ q ∈ W ∨ ∃ q : Nat, l = (q : Int)) →
 (∀ p ∈ W, (A.getD p 0 < la ↔ B.getD p 0 < lb)) → (∀ p ∈ W, ∀ q : Nat, (q ∈ W ∨ l = (q : Int)) → A.getD p 0 < la → (A.getD q 0 < A.getD p 0 ↔ B.getD q 0 < B.getD p 0)) →
 W.foldl (lwS A la) l = W.foldl (lwS B lb) l
 | [], l, _, _, _ => rfl
 | p :: W, l, hl, h1, h2 => by
  rw [List.foldl_cons, List.foldl_cons]
  have e : lwS A la l p = lwS B lb l p := by
   unfold lwS
   have a1 := h1 p (List.mem_cons.2 (.inl rfl))
   by_cases hp : A.getD p 0 < la
   · by_cases hm : l = -1
     · rw [if_pos ⟨hp, .inl hm⟩, if_pos ⟨a1.1 hp, .inl hm⟩]
     · obtain ⟨q, hq⟩ : ∃ q : Nat, l = (q : Int) := by
        rcases hl with z | ⟨q, z⟩
        · exact absurd z hm
        · rcases z with ⟨z, _⟩ | ⟨q', z⟩
          · exact ⟨q, z⟩
          · exact ⟨q', z⟩
       subst hq
       have a2 := h2 p (List.mem_cons.2 (.inl rfl)) q (.inr rfl) hp
       rw [Int.toNat_natCast]
       by_cases hlt : A.getD q 0 < A.getD p 0
       · rw [if_pos ⟨hp, .inr hlt⟩, if_pos ⟨a1.1 hp, .inr (a2.1 hlt)⟩]
       · rw [if_neg (fun z => by rcases z.2 with z | z; exact hm z; exact hlt z), if_neg (fun z => by rcases z.2 with z | z; exact hm z; exact hlt (a2.2 z))]
   · rw [if_neg (fun z => hp z.1), if_neg (fun z => hp (a1.2 z.1))]
  rw [e]
  have hl' : lwS B lb l p = l ∨ lwS B lb l p = (p : Int) := by
   unfold lwS
   split
   · exact .inr rfl
   · exact .inl rfl
  refine lastW_same W _ ?_ (fun r hr => h1 r (List.mem_cons.2 (.inr hr))) (fun r hr q hq hlt => ?_)
  · rcases hl' with z | z
    · rw [z]
      rcases hl with y | ⟨q, y⟩
      · exact .inl y
      · rcases y with ⟨y, _⟩ | ⟨q', y⟩
        · exact .inr ⟨0, .inr ⟨q, y⟩⟩
        · exact .inr ⟨0, .inr ⟨q', y⟩⟩
    · exact .inr ⟨0, .inr ⟨p, z⟩⟩
  · refine h2 r (List.mem_cons.2 (.inr hr)) q ?_ hlt
    rcases hq with z | z
    · exact .inl (List.mem_cons.2 (.inr z))
    · rcases hl' with y | y
      · right; rw [← y]; exact z
      · left
        have : q = p := by rw [y] at z; omega
        rw [this]; exact List.mem_cons.2 (.inl rfl)
theorem ser_of {ts : List Tk} (hok : okDs ts) {O : List Int} (ho : isOrd O ts.length) (hk : ∀ a b, a < ts.length → b < ts.length → edB ts a b = true → tI O (a : Int) < tI O (b : Int)) : serP ts O := by
 refine ⟨hok, ho, fun d hd t ht x hx hr => ?_⟩
 have ox := (okDs_mem hok ht).2 x hx
 have hin : ∀ p ∈ wrsOf ts x, p < ts.length ∧ wrB (ts.getD p tk0) x = true := fun p hp => by
  unfold wrsOf at hp
  rw [List.mem_filter, List.mem_range] at hp
  exact hp
 have hdd : (ts.getD d tk0).begun < (ts.getD d tk0).ended := by
  have := hok.2.1 d hd
  unfold deedB at this
  simp only [Bool.and_eq_true, decide_eq_true_eq] at this
  exact this.2.1
 have ends_at : ∀ p, p < ts.length → (endsOf ts).getD p 0 = (ts.getD p tk0).ended := fun p hp => by simp [endsOf, List.getD, hp]
 have cmp : ∀ p ∈ wrsOf ts x, ((trn O ts.length).getD p 0 < tI O (d : Int) ↔ (endsOf ts).getD p 0 < (ts.getD d tk0).begun) := fun p hp => by
  obtain ⟨h1, h2⟩ := hin p hp
  rw [trn_at O h1, ends_at p h1]
  by_cases hpd : p = d
  · subst hpd
    constructor
    · intro z; omega
    · intro z; omega
  · have tn := (tm_ne hok h1 hd hpd).1
    constructor
    · intro z
      by_cases hlt : (ts.getD p tk0).ended < (ts.getD d tk0).begun
      · exact hlt
      · have := hk d p hd h1 (ed_rw hok h1 hd ox h2 hr (by omega) hpd)
        omega
    · intro z; exact hk p d h1 hd (ed_wr hok h1 hd ox h2 hr z hpd)
 unfold sameR lastW
 refine lastW_same (wrsOf ts x) (-1) (.inl rfl) cmp (fun p hp q hq hlt => ?_)
 rcases hq with hq | hq
 · obtain ⟨h1, h2⟩ := hin p hp
   obtain ⟨g1, g2⟩ := hin q hq
   rw [trn_at O h1, trn_at O g1, ends_at p h1, ends_at q g1]
   by_cases hpq : p = q
   · subst hpq; constructor <;> intro z <;> omega
   · have tn := (tm_ne hok h1 g1 hpq).2
     constructor
     · intro z
       by_cases hl : (ts.getD q tk0).ended < (ts.getD p tk0).ended
       · exact hl
       · have := hk p q h1 g1 (ed_ww hok h1 g1 ox h2 g2 (by omega))
         omega
     · intro z; exact hk q p g1 h1 (ed_ww hok g1 h1 ox g2 h2 z)
 · omega
end Go.Proofs.YtjcjoabblafboaaGreat
/- The order that is taken keeps all edges, and is serial. No program; the deeds are right. -/

namespace Go.Proofs.YtjcjoabblafboaaGreat
open Go.RowKit
set_option maxRecDepth 100000
def opL (ts : List Tk) (T : List Nat) : Prop := ∀ T1 b T2, T = T1 ++ b :: T2 → ∀ a, a < ts.length → edB ts a b = true → a ∈ T1
theorem opL_snoc {ts : List Tk} {T : List Nat} {x : Nat} (h : opL ts T) (hx : ∀ a, a < ts.length → edB ts a x = true → a ∈ T) : opL ts (T ++ [x]) := by
 intro T1 b T2 e a ha he
 rcases List.eq_nil_or_concat T2 with rfl | ⟨T3, y, rfl⟩
 · have e2 : T1 ++ [b] = T ++ [x] := e.symm
   have := List.append_inj' e2 rfl
   obtain ⟨rfl, q⟩ := this
   have : b = x := by simpa using q
   subst this
   exact hx a ha he
 · have e2 : (T1 ++ b :: T3) ++ [y] = T ++ [x] := by rw [e]; simp
   have := List.append_inj' e2 rfl
   exact h T1 b T3 this.1.symm a ha he
theorem tk_keeps {ts : List Tk} : ∀ (f : Nat) {R : Eds} {T L : List Nat} {lf : List Bool}, InvT ts R L lf → opL ts T → T.Nodup → (∀ x, x < ts.length → (x ∈ T ↔ x ∉ L)) → (∀ x ∈ T, x < ts.length) →
 opL ts (tkF ts.length f R T L).1 ∧ (tkF ts.length f R T L).1.Nodup ∧ (∀ x, x < ts.length → (x ∈ (tkF ts.length f R T L).1 ↔ x ∉ (tkF ts.length f R T L).2.1)) ∧ ∀ x ∈ (tkF ts.length f R T L).1, x < ts.length
 | 0, R, T, L, lf, _, h1, h2, h3, h4 => ⟨h1, h2, h3, h4⟩
 | f + 1, R, T, L, lf, h, h1, h2, h3, h4 => by
  unfold tkF
  cases hf : L.findIdx? (fun x => firstB R ts.length ((x : Nat) : Int)) with
  | none => exact ⟨h1, h2, h3, h4⟩
  | some k =>
   obtain ⟨hk, hfst, _⟩ := List.findIdx?_eq_some_iff_getElem.1 hf
   have hgd : L.getD k 0 = L[k] := by simp [List.getD, hk]
   simp only [hgd]
   have hxL : L[k] ∈ L := List.getElem_mem hk
   have hxn := ((h.mem _).1 hxL).1
   have hxT : L[k] ∉ T := fun z => (h3 _ hxn).1 z hxL
   refine tk_keeps f (h.step hk) (opL_snoc h1 (fun a ha he => ?_)) ?_ (fun x hx => ?_) (fun x hx => ?_)
   · refine (h3 a ha).2 (fun z => ?_)
     unfold firstB at hfst
     have hno := of_decide_eq_true hfst a ha
     exact hno ((h.edg a _).2 ⟨z, (edR_mem ts a _).2 ⟨L[k], rfl, ha, hxn, he⟩⟩)
   · rw [List.nodup_append]
     refine ⟨h2, by simp, fun y hy z hz => ?_⟩
     have : z = L[k] := by simpa using hz
     rw [this]
     exact fun e => hxT (e ▸ hy)
   · rw [List.mem_append, cut_mem h.asc hk, h3 x hx]
     constructor
     · rintro (z | z)
       · exact fun q => z q.1
       · have : x = L[k] := by simpa using z
         exact fun q => q.2 this
     · intro z
       by_cases hxl : x ∈ L
       · right
         by_cases e : x = L[k]
         · rw [e]; simp
         · exact absurd ⟨hxl, e⟩ z
       · exact .inl hxl
   · rcases List.mem_append.1 hx with z | z
     · exact h4 x z
     · have : x = L[k] := by simpa using z
       rw [this]; exact hxn
theorem taken_all (ts : List Tk) : opL ts (takenL ts) ∧ (takenL ts).Nodup ∧ (∀ x, x < ts.length → (x ∈ takenL ts ↔ x ∉ leftL ts)) ∧ ∀ x ∈ takenL ts, x < ts.length :=
 tk_keeps ts.length (inv_start ts) (fun T1 b T2 e => by have := congrArg List.length e; simp at this) List.nodup_nil (fun x hx => by simp [List.mem_range, hx]) (fun x hx => by cases hx)
theorem nI_mem {T : List Nat} {a : Nat} : ((a : Nat) : Int) ∈ nI T ↔ a ∈ T := by
 unfold nI
 rw [List.mem_map]
 constructor
 · rintro ⟨b, hb, e⟩
   have : b = a := by omega
   rw [← this]; exact hb
 · intro h; exact ⟨a, h, rfl⟩
theorem nI_idx : ∀ (T : List Nat) (a : Nat), (nI T).idxOf ((a : Nat) : Int) = T.idxOf a
 | [], a => rfl
 | b :: T, a => by
  show (((b : Nat) : Int) :: nI T).idxOf ((a : Nat) : Int) = _
  rw [List.idxOf_cons, List.idxOf_cons, nI_idx T a]
  rw [show (((b : Nat) : Int) == ((a : Nat) : Int)) = (b == a) by rw [Bool.eq_iff_iff, beq_iff_eq, beq_iff_eq]; omega]
theorem tI_nat {T : List Nat} {a : Nat} (h : a ∈ T) : tI (nI T) ((a : Nat) : Int) = ((T.idxOf a : Nat) : Int) := by
 unfold tI
 rw [if_pos (nI_mem.2 h), nI_idx]
theorem op_idx {ts : List Tk} {T : List Nat} (h : opL ts T) {a b : Nat} (ha : a < ts.length) (hb : b ∈ T) (he : edB ts a b = true) : a ∈ T ∧ T.idxOf a < T.idxOf b := by
 have hlt : T.idxOf b < T.length := List.idxOf_lt_length_iff.2 hb
 have e : T = T.take (T.idxOf b) ++ b :: T.drop (T.idxOf b + 1) := by
  have h1 : T[T.idxOf b] = b := List.getElem_idxOf hlt
  have h2 := List.take_append_drop (T.idxOf b) T
  rw [List.drop_eq_getElem_cons hlt, h1] at h2
  exact h2.symm
 have hm := h _ b _ e a ha he
 have hmT : a ∈ T := List.mem_of_mem_take hm
 refine ⟨hmT, ?_⟩
 obtain ⟨j, hj, ej⟩ := List.getElem_of_mem hm
 rw [List.length_take] at hj
 rw [List.getElem_take] at ej
 have hle : T.idxOf a ≤ j := by
  rcases Nat.lt_or_ge j (T.idxOf a) with z | z
  · have := List.not_of_lt_findIdx (p := (· == a)) (xs := T) (i := j) (by exact z)
    simp [ej] at this
  · exact z
 omega
theorem taken_ord {ts : List Tk} (hl : leftL ts = []) : isOrd (nI (takenL ts)) ts.length := by
 obtain ⟨_, hd, hall, hlt⟩ := taken_all ts
 have hlen : (takenL ts).length = ts.length := by
  have h := (take_same ts).2.1 hl
  have h2 := nodup_le ts.length _ hd hlt
  omega
 refine ⟨by rw [nI_len, hlen], fun i hi => ?_⟩
 have hi' : i < (takenL ts).length := by omega
 rw [nI_get hi']
 have h3 := hlt _ (List.getElem_mem hi')
 refine ⟨by omega, fun z => ?_⟩
 rw [show (nI (takenL ts)).take i = nI ((takenL ts).take i) by simp [nI, List.map_take], nI_mem] at z
 obtain ⟨j, hj, ej⟩ := List.getElem_of_mem z
 rw [List.length_take] at hj
 rw [List.getElem_take] at ej
 exact List.pairwise_iff_getElem.1 hd j i (by omega) hi' (by omega) ej
theorem ord_serial {ts : List Tk} (hok : okDs ts) (hl : leftL ts = []) : serP ts (nI (takenL ts)) := by
 obtain ⟨hop, _, hall, _⟩ := taken_all ts
 have hin : ∀ x, x < ts.length → x ∈ takenL ts := fun x hx => (hall x hx).2 (by rw [hl]; simp)
 refine ser_of hok (taken_ord hl) (fun a b ha hb he => ?_)
 have h := op_idx hop ha (hin b hb) he
 rw [tI_nat h.1, tI_nat (hin b hb)]
 omega
end Go.Proofs.YtjcjoabblafboaaGreat
/- A slice that begins inside a row of the call's own; the laws' markIntS over it. Conditions: at most 2^21 numbers. -/


namespace Go.Proofs.YtjcjoabblafboaaGreat
open Go.RowKit
set_option maxRecDepth 100000
def TailI (w : World) (base : Nat) (a : Option Addr) (m : Nat) (zs : List Int) : Prop :=
 (a = none ∧ m = 0 ∧ zs = []) ∨ ∃ (g k cap : Nat) (ys : List Int), a = some ⟨g, k, none⟩ ∧ ys.length = k ∧ zs.length = m ∧ w.ownsRow base 3 1 (.slice (some ⟨g, 0, none⟩) (k + m) cap) (k + m) (ins (ys ++ zs))
theorem TailI.lower {w : World} {base base' : Nat} {a : Option Addr} {m : Nat} {zs : List Int} (h : TailI w base a m zs) (hb : base' ≤ base) : TailI w base' a m zs := by
 rcases h with h | ⟨g, k, cap, ys, h1, h2, h3, h4⟩
 · exact .inl h
 · exact .inr ⟨g, k, cap, ys, h1, h2, h3, owns_lower h4 hb⟩
theorem TailI.lt {w : World} {base : Nat} {a : Option Addr} {m : Nat} {zs : List Int} (h : TailI w base a m zs) {x : Addr} (e : a = some x) : base ≤ x.block ∧ x.block < w.heap.size := by
 rcases h with ⟨h, _⟩ | ⟨g, k, cap, ys, h1, h2, h3, h4⟩
 · rw [h] at e; cases e
 · rw [h1] at e; cases e
   exact h4.lt g rfl
theorem TailI.reads {w : World} {base : Nat} {a : Option Addr} {m : Nat} {zs : List Int} (h : TailI w base a m zs) (hb : ∀ i, -9223372036854775808 ≤ zs.getD i 0 ∧ zs.getD i 0 ≤ 9223372036854775807) : ReadsI w a m zs := by
 rcases h with ⟨rfl, rfl, rfl⟩ | ⟨g, k, cap, ys, rfl, h2, h3, h4⟩
 · exact ⟨rfl, .inl rfl, hb⟩
 · refine ⟨h3, .inr ⟨g, k, rfl, fun i hi => ?_⟩, hb⟩
   rw [h4.cellAt (k + i) (by omega), getD_ins, List.getElem?_append_right (by omega), h2, Nat.add_sub_cancel_left, List.getD_eq_getElem?_getD]
   rw [List.getElem?_eq_getElem (by omega)]; rfl
theorem TailI.own {w : World} {base g k m cap : Nat} {ys zs : List Int} (h2 : ys.length = k) (h3 : zs.length = m) (h4 : w.ownsRow base 3 1 (.slice (some ⟨g, 0, none⟩) (k + m) cap) (k + m) (ins (ys ++ zs))) : TailI w base (some ⟨g, k, none⟩) m zs := .inr ⟨g, k, cap, ys, rfl, h2, h3, h4⟩
end Go.Proofs.YtjcjoabblafboaaGreat
