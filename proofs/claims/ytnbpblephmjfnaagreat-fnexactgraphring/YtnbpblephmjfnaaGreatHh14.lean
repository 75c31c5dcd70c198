/- slices.CompactFunc over a row of keys of the call's own. Conditions: at most 2^20 keys. -/
import Derived.Test.YtnbpblephmjfnaaGreatHf14
import Derived.Test.YtnbpblephmjfnaaGreatEd13
import Derived.Test.YtnbpblephmjfnaaGreatMga
namespace Go.Proofs.YtnbpblephmjfnaaGreat
open Go.RowKit
set_option maxRecDepth 100000
def fQ (l : List Qi) : List Value := l.flatMap encQ
theorem fQ_app (a b : List Qi) : fQ (a ++ b) = fQ a ++ fQ b := by simp [fQ]
theorem fQ_cons (q : Qi) (b : List Qi) : fQ (q :: b) = encQ q ++ fQ b := by simp [fQ]
theorem fQ_len (l : List Qi) : (fQ l).length = l.length * 4 := flat_len encQ 4 encQ_len l
theorem size_im14 : (Tryz.prog.info? 72).map (·.size) = some 4 := by kernel_rfl
theorem zeroIm14 (w : World) : (zeroValue 72).run Tryz.prog w = .ok (.agg #[.int .i64 0, .int .i64 0, .float .f64 0, .slice none 0 0]) w := by kernel_rfl
theorem Keeps.cells14 (g : Nat) : ∀ (vs : List Value) (o : Nat) (w : World), Keeps (fun b => b = g) w (w.setCells g o vs)
 | [], _, w => Keeps.refl _ w
 | v :: vs, o, w => (Keeps.set (X := fun b => b = g) w (p := ⟨g, o, none⟩) rfl v).trans (Keeps.cells14 g vs (o + 1) _)
theorem heapL14 (g : Nat) (t : TypeId) : ∀ (vs : List Value) (o : Nat) (w : World) (cs : List Value), o + vs.length ≤ cs.length → w.heap[g]? = some (.cells cs.toArray t) → (w.setCells g o vs).heap[g]? = some (.cells (cs.take o ++ vs ++ cs.drop (o + vs.length)).toArray t)
 | [], o, w, cs, _, h => by simpa [World.setCells] using h
 | v :: vs, o, w, cs, hl, h => by
  simp only [List.length_cons] at hl
  have h1 := heap_setCell_same w g o cs.toArray t v h
  rw [List.setIfInBounds_toArray] at h1
  have h2 := heapL14 g t vs (o + 1) _ (cs.set o v) (by rw [List.length_set]; omega) h1
  show (World.setCells _ g (o + 1) vs).heap[g]? = _
  rw [h2]
  congr 3
  rw [List.drop_set_of_lt (by omega), List.take_set, List.take_succ_eq_append_getElem (by omega), List.set_append_right _ _ (by rw [List.length_take]; omega)]
  rw [List.length_take, show o - min o cs.length = 0 by omega, List.set_cons_zero, List.append_assoc, List.append_assoc]
  simp only [List.cons_append, List.nil_append, List.append_assoc, List.length_cons]
  rw [show o + 1 + vs.length = o + (vs.length + 1) by omega]
theorem block14 {w : World} {g : Nat} {cs : List Value} {t : TypeId} (h : w.heap[g]? = some (.cells cs.toArray t)) (j : Nat) : w.cell? ⟨g, j, none⟩ = cs[j]? := by rw [cell_of_row _ _ _ _ _ _ h]; simp
theorem there14 {w : World} {g : Nat} {cs : List Value} {t : TypeId} (h : w.heap[g]? = some (.cells cs.toArray t)) {o n : Nat} (hn : o + n ≤ cs.length) : w.there g o n := fun j hj => ⟨by rw [block14 h, List.getElem?_eq_getElem (by omega)]; rfl, frozen_of_row _ _ _ _ _ h⟩
section
variable {P : Program}
theorem run_clear14 (w : World) (t e ty : TypeId) (z : Value) (ht : P.underlying t = some (.slice e)) (hv : ∀ w, (zeroValue e).run P w = .ok z w) (b o n c : Nat) (hn : 0 < n) (zs : List Value) (hz : (Builtin.zeroCells z.cells n).toList = zs) (h1 : ∀ v ∈ zs, v.oneCell' = true) (hth : w.there b o zs.length) :
 (Builtin.clear_ #[t] ty #[.slice (some ⟨b, o, none⟩) n c]).run P w = .ok (.tuple #[]) (w.setCells b o zs) := by
 have hst := run_storeCells_cells (P := P) b o zs 0 w (by simpa using fun j hj => (hth j hj).1) (by simpa using fun j hj => (hth j hj).2) h1
 simp only [Nat.add_zero] at hst
 obtain ⟨m, rfl⟩ : ∃ m, n = m + 1 := ⟨n - 1, by omega⟩
 simp [Builtin.clear_, run_underlying ht, hv, hz, hst]
end
theorem owns_blk {w : World} {lo g n c s : Nat} {t : TypeId} {xs : List Value} (o : w.ownsRow lo t s (.slice (some ⟨g, 0, none⟩) n c) n xs) : ∃ rest : List Value, w.heap[g]? = some (.cells (xs ++ rest).toArray t) ∧ (xs ++ rest).length = c * s ∧ n ≤ c ∧ c ≤ maxLen ∧ lo ≤ g := by
 rcases o.2 with ⟨e, _⟩ | ⟨g', c', cur, e, hb, hh, hc, hm, hs, ht⟩
 · cases e
 · obtain ⟨e1, -, rfl⟩ := Value.slice.inj e
   obtain rfl : g = g' := by simpa using e1
   refine ⟨cur.toList.drop (n * s), ?_, ?_, hc, hm, hb⟩
   · rw [← ht, List.take_append_drop]; simpa using hh
   · rw [← ht, List.take_append_drop]; simpa using hs
theorem blk_owns {w : World} {lo g n c s : Nat} {t : TypeId} {xs rest : List Value} (h : w.heap[g]? = some (.cells (xs ++ rest).toArray t)) (hx : xs.length = n * s) (hr : (xs ++ rest).length = c * s) (hn : n ≤ c) (hm : c ≤ maxLen) (hb : lo ≤ g) : w.ownsRow lo t s (.slice (some ⟨g, 0, none⟩) n c) n xs :=
 ⟨hx, .inr ⟨g, c, (xs ++ rest).toArray, rfl, hb, h, hn, hm, by simpa using hr, by rw [← hx]; simp⟩⟩
theorem mid4 {w : World} {g : Nat} {L R : List Value} {q : Qi} {ty : TypeId} (h : w.heap[g]? = some (.cells (L ++ (encQ q ++ R)).toArray ty)) {o : Nat} (hj : L.length = o) : Box4 w g o q.e.K q.e.N q.e.F (.slice q.a q.e.Z.length q.c) := by
 have c := fun i => block14 h (o + i)
 have e : ∀ i, (L ++ (encQ q ++ R))[o + i]? = (encQ q ++ R)[i]? := fun i => by rw [List.getElem?_append_right (by omega), hj]; congr 1; omega
 exact ⟨by have := c 0; rw [e] at this; exact this, by have := c 1; rw [e] at this; exact this, by have := c 2; rw [e] at this; exact this, by have := c 3; rw [e] at this; exact this⟩
theorem mid_lay4 {w : World} {g : Nat} {A X R V : List Value} {ty : TypeId} (h : w.heap[g]? = some (.cells (A ++ (X ++ R)).toArray ty)) {o : Nat} (hi : A.length = o) (hV : V.length = 4) (hX : 4 ≤ X.length) : (w.setCells g o V).heap[g]? = some (.cells (A ++ (V ++ (X.drop 4 ++ R))).toArray ty) := by
 have := heapL14 g ty V o w _ (by rw [List.length_append, List.length_append]; omega) h
 rw [this]
 congr 2
 rw [← hi, List.take_left, List.append_assoc, hV, List.drop_append, List.drop_of_length_le (by omega), List.nil_append, Nat.add_sub_cancel_left, List.drop_append_of_le_length hX]
def kpQ (d : List Qi) (i : Nat) : Bool := decide (i = 0) || decide (cmpM (d.getD i qi0).e (d.getD (i - 1) qi0).e ≠ 0)
def cpQ (d : List Qi) (m : Nat) : List Qi := ((List.range m).filter (kpQ d)).map (fun i => d.getD i qi0)
theorem cpQ_succ (d : List Qi) (m : Nat) : cpQ d (m + 1) = cpQ d m ++ (if kpQ d m = true then [d.getD m qi0] else []) := by
 unfold cpQ
 rw [List.range_succ, List.filter_append, List.map_append]
 congr 1
 by_cases h : kpQ d m = true
 · simp [h]
 · simp [h]
theorem cpQ_le (d : List Qi) (m : Nat) : (cpQ d m).length ≤ m := by
 unfold cpQ
 rw [List.length_map]
 exact Nat.le_trans (List.length_filter_le _ _) (by simp)
theorem getD_cons14 {d : List Qi} {j : Nat} (h : j < d.length) : d.drop j = d.getD j qi0 :: d.drop (j + 1) := by
 rw [List.drop_eq_getElem_cons h]; simp [List.getD, h]
theorem take_q {d : List Qi} {j : Nat} (h : j < d.length) : d.take (j + 1) = d.take j ++ [d.getD j qi0] := by
 rw [List.take_succ_eq_append_getElem h]; simp [List.getD, h]
theorem GoodQ.keep {w w' : World} {blk : Nat} {q : Qi} (h : GoodQ w blk q) (k : Keeps (fun b => b = blk) w w') : GoodQ w' blk q :=
 h.grown ⟨k.os, k.tape, k.output, k.size, fun i hi hne => k.block i hi (fun e => hne (by rw [e]))⟩
set_option maxHeartbeats 1600000 in
theorem impl_same (K N K' N' : Int) (F F' : Nat) {p p' : Option Addr} {m m' : Nat} (d d' : Nat) {Z Z' : List Int} {w : World} (hf : F < 18446744073709551616) (hf' : F' < 18446744073709551616) (q : Reads w p m Z) (q' : Reads w p' m' Z') (hz : m ≤ 2097152) (hz' : m' ≤ 2097152) :
 Calls Tryz.prog 145 #[.agg #[.int .i64 K, .int .i64 N, .float .f64 F, .slice p m d], .agg #[.int .i64 K', .int .i64 N', .float .f64 F', .slice p' m' d']] w fun e w' => e = .returned (.bool (decide (cmpI K N F m Z K' N' F' m' Z' = 0))) ∧ Below w.heap.size w w' := by
 obtain ⟨V, hV⟩ : ∃ V, decide (cmpI K N F m Z K' N' F' m' Z' = 0) = V := ⟨_, rfl⟩
 rw [hV]
 have HV := hid hV
 clear hV
 have hB := hid (two w (.cells #[.int .i64 K, .int .i64 N, .float .f64 F, .slice p m d] 72) (.cells #[.int .i64 K', .int .i64 N', .float .f64 F', .slice p' m' d'] 72))
 have Q1 := hid (q.below hB.out (Nat.le_refl _))
 have Q2 := hid (q'.below hB.out (Nat.le_refl _))
 clear q q'
 go_enter Tryz.func145, Tryz.ntmps145
 go_wp2_with fail
 refine (impl_ItemCompare K N K' N' F F' d d' hf hf' Q1.out Q2.out hz hz').mono ?_
 rintro e w1 ⟨rfl, b1⟩
 have HE := hid (hB.out.trans (b1.mono hB.out.size))
 clear b1
 generalize cmpI K N F m Z K' N' F' m' Z' = v at *
 by_cases hv : v = 0
 · have hq : (v == 0) = true := by simpa using hv
   have HF := hid (show V = true by rw [← HV.out, decide_eq_true hv])
   clear hv
   go_wp2_with fail
   go_ret
   exact ⟨by rw [HF.out]; rfl, HE.out⟩
 · have hq : (v == 0) = false := by simpa using hv
   have HF := hid (show V = false by rw [← HV.out, decide_eq_false hv])
   clear hv
   go_wp2_with fail
   go_ret
   exact ⟨by rw [HF.out]; rfl, HE.out⟩
end Go.Proofs.YtnbpblephmjfnaaGreat
