/- Texts of this proof in one: Fh13 Fj13 Fk13 Fl13 Fi13 Eu13 Ev13 Fb13 Fn13 Fq13 Fp13 Fr13 Fv13 Fw13 Ew13. -/
import Derived.Test.YtnhlfkffllbpiaaGreatFg13
import Derived.Test.YtnhlfkffllbpiaaGreatFd13
import Derived.Test.YtnhlfkffllbpiaaGreatEs13
import Derived.Test.YtnhlfkffllbpiaaGreatEq13
import Derived.Deep.MidRow
import Derived.Deep.RegionLaw
import Derived.Lib.SliceRun
import Derived.Test.YtnhlfkffllbpiaaGreatEr13
import Derived.Test.YtnhlfkffllbpiaaGreatEk13
import Derived.Test.YtnhlfkffllbpiaaGreatEp13
import Derived.Test.YtnhlfkffllbpiaaGreatFa13
import Derived.Maps.AppendAt
import Derived.Test.YtnhlfkffllbpiaaGreatFf13
/- The contracts of the program's (list).with over tracks and of its EdgeBegin. Conditions: at most 2^20 tracks, with memory of their own. -/




namespace Go.Proofs.YtnhlfkffllbpiaaGreat
open Go.RowKit
set_option maxRecDepth 100000
theorem OwnT1.part {w : World} {lo hi : Nat} {m : Mt} {t : Tk} (h : OwnT1 w lo hi m t) : PartT w m t := by
 obtain ⟨a, c, e⟩ := h.rd.slice
 obtain ⟨a', c', e'⟩ := h.wr.slice
 have h1 := h.rd
 have h2 := h.wr
 rw [e] at h1
 rw [e'] at h2
 exact ⟨a, c, a', c', e, e', h1.rd, h1.max, h2.rd, h2.max⟩
end Go.Proofs.YtnhlfkffllbpiaaGreat
/- A row of tracks in pieces, changed in place; the library's Delete over tracks. Conditions: at most 2^21 tracks. -/




namespace Go.Proofs.YtnhlfkffllbpiaaGreat
open Go.RowKit
set_option maxRecDepth 100000
def StopG (p : Prop) : Prop := p
theorem stopG {p : Prop} (h : StopG p) : p := h
theorem Keeps.below {X : Nat → Prop} {B : Nat} {w0 w w' : World} (h0 : Below B w0 w) (h : Keeps X w w') (hX : ∀ k, X k → B ≤ k) (hB : B ≤ w.heap.size) : Below B w0 w' :=
 ⟨h.os.trans h0.os, h.tape.trans h0.tape, h.output.trans h0.output, Nat.le_trans h0.size h.size, fun k hk => (h.block k (by omega) (fun x => by have := hX k x; omega)).trans (h0.block k hk)⟩
theorem Keeps.cells (g : Nat) : ∀ (vs : List Value) (o : Nat) (w : World), Keeps (fun b => b = g) w (w.setCells g o vs)
 | [], _, w => Keeps.refl _ w
 | v :: vs, o, w => (Keeps.set (X := fun b => b = g) w (p := ⟨g, o, none⟩) rfl v).trans (Keeps.cells g vs (o + 1) _)
theorem size_setCells13 (g : Nat) : ∀ (vs : List Value) (o : Nat) (w : World), (w.setCells g o vs).heap.size = w.heap.size
 | [], _, _ => rfl
 | _ :: vs, o, _ => (size_setCells13 g vs (o + 1) _).trans (set_size13 _ _ _)
theorem heapL_setCells (g : Nat) (t : TypeId) : ∀ (vs : List Value) (o : Nat) (w : World) (cs : List Value), o + vs.length ≤ cs.length → w.heap[g]? = some (.cells cs.toArray t) → (w.setCells g o vs).heap[g]? = some (.cells (cs.take o ++ vs ++ cs.drop (o + vs.length)).toArray t)
 | [], o, w, cs, _, h => by simpa [World.setCells] using h
 | v :: vs, o, w, cs, hl, h => by
  simp only [List.length_cons] at hl
  have h1 := heap_setCell_same w g o cs.toArray t v h
  rw [List.setIfInBounds_toArray] at h1
  have h2 := heapL_setCells g t vs (o + 1) _ (cs.set o v) (by rw [List.length_set]; omega) h1
  show (World.setCells _ g (o + 1) vs).heap[g]? = _
  rw [h2]
  congr 3
  rw [List.drop_set_of_lt (by omega), List.take_set, List.take_succ_eq_append_getElem (by omega), List.set_append_right _ _ (by rw [List.length_take]; omega)]
  rw [List.length_take, show o - min o cs.length = 0 by omega, List.set_cons_zero, List.append_assoc, List.append_assoc]
  simp only [List.cons_append, List.nil_append, List.append_assoc, List.length_cons]
  rw [show o + 1 + vs.length = o + (vs.length + 1) by omega]
def cP (ps : List (Tk × Mt)) : List Value := (ps.map (fun p => cellsT1 p.1 p.2)).flatten
theorem cP_app (a b : List (Tk × Mt)) : cP (a ++ b) = cP a ++ cP b := by simp [cP]
theorem cP_cons (p : Tk × Mt) (b : List (Tk × Mt)) : cP (p :: b) = cellsT1 p.1 p.2 ++ cP b := by simp [cP]
theorem cP_len : ∀ ps : List (Tk × Mt), (cP ps).length = ps.length * 8
 | [] => rfl
 | p :: ps => by rw [cP_cons, List.length_append, cP_len ps]; simp [cellsT1]; omega
theorem cellsT_cP : ∀ (ts : List Tk) (ms : List Mt), ms.length = ts.length → cellsT ts ms = cP (ts.zip ms)
 | [], [], _ => rfl
 | t :: ts, m :: ms, h => by rw [cellsT_cons, List.zip_cons_cons, cP_cons, cellsT_cP ts ms (by simpa using h)]
theorem cP_cellsT : ∀ ps : List (Tk × Mt), cP ps = cellsT (ps.map (·.1)) (ps.map (·.2))
 | [] => rfl
 | p :: ps => by rw [cP_cons, List.map_cons, List.map_cons, cellsT_cons, cP_cellsT ps]
structure BandsP (w : World) (lo hi : Nat) (ps : List (Tk × Mt)) : Prop where
 own : ∀ p ∈ ps, OwnT1 w lo hi p.2 p.1
 apart : ps.Pairwise (fun p q => ∀ b, blkT p.2 b → ¬ blkT q.2 b)
theorem BandsT.pairs {w : World} {lo hi : Nat} {ms : List Mt} {ts : List Tk} (h : BandsT w lo hi ms ts) : BandsP w lo hi (ts.zip ms) := by
 have hz : ∀ i (hi : i < (ts.zip ms).length), (ts.zip ms)[i] = (ts.getD i tk0, ms.getD i mt0) := fun i hi => by
  rw [List.length_zip, h.len, Nat.min_self] at hi
  rw [List.getElem_zip]
  simp [List.getD, hi, h.len]
 have hl : (ts.zip ms).length = ts.length := by rw [List.length_zip, h.len, Nat.min_self]
 refine ⟨fun p hp => ?_, ?_⟩
 · obtain ⟨i, hi, rfl⟩ := List.getElem_of_mem hp
   rw [hz i hi]
   exact h.own i (by omega)
 · rw [List.pairwise_iff_getElem]
   intro i j hi hj hij b hb
   rw [hz i hi] at hb
   rw [hz j hj]
   exact h.apart i j hij (by omega) b hb
theorem BandsP.t {w : World} {lo hi : Nat} {ps : List (Tk × Mt)} (h : BandsP w lo hi ps) : BandsT w lo hi (ps.map (·.2)) (ps.map (·.1)) := by
 have e1 : ∀ i (hi : i < ps.length), (ps.map (·.1)).getD i tk0 = (ps[i]).1 := fun i hi => by simp [List.getD, hi]
 have e2 : ∀ i (hi : i < ps.length), (ps.map (·.2)).getD i mt0 = (ps[i]).2 := fun i hi => by simp [List.getD, hi]
 refine ⟨by simp, fun i hi => ?_, fun i j hij hj b hb => ?_⟩
 · rw [List.length_map] at hi
   rw [e1 i hi, e2 i hi]
   exact h.own _ (List.getElem_mem hi)
 · rw [List.length_map] at hj
   rw [e2 i (by omega)] at hb
   rw [e2 j hj]
   exact (List.pairwise_iff_getElem.1 h.apart) i j (by omega) hj hij b hb
theorem OwnT.pairs {w : World} {lo hi : Nat} {v : Value} {ts : List Tk} (h : OwnT w lo hi v ts) : ∃ ps : List (Tk × Mt), ps.map (·.1) = ts ∧ w.ownsRow lo 52 8 v ts.length (cP ps) ∧ BandsP w lo hi ps := by
 obtain ⟨ms, o, hb⟩ := h.b
 have hp := hb.pairs
 refine ⟨ts.zip ms, ?_, ?_, hp⟩
 · rw [List.map_fst_zip (by rw [hb.len]; exact Nat.le_refl _)]
 · rw [← cellsT_cP ts ms hb.len]; exact o
theorem BandsP.own_t {w : World} {lo hi : Nat} {v : Value} {ps : List (Tk × Mt)} (h : BandsP w lo hi ps) (o : w.ownsRow lo 52 8 v ps.length (cP ps)) (ht : ∀ g, v.ownBlock = some g → g < hi) : OwnT w lo hi v (ps.map (·.1)) :=
 h.t.t (by rw [List.length_map, ← cP_cellsT]; exact o) ht
theorem BandsP.keep {X : Nat → Prop} {w w' : World} {lo hi : Nat} {ps : List (Tk × Mt)} (h : BandsP w lo hi ps) (g : Keeps X w w') (hne : ∀ p ∈ ps, ∀ k, blkT p.2 k → ¬ X k) : BandsP w' lo hi ps := ⟨fun p hp => (h.own p hp).keep g (hne p hp), h.apart⟩
theorem BandsP.off {w w' : World} {lo hi : Nat} {ps : List (Tk × Mt)} (h : BandsP w lo hi ps) {base g c n : Nat} {xs : List Value} (o : w.ownsRow base 52 8 (.slice (some ⟨g, 0, none⟩) n c) n xs) (k : Keeps (fun b => b = g) w w') : BandsP w' lo hi ps :=
 h.keep k (fun p hp b hb e => by subst e; exact (h.own p hp).off o (by decide) (by decide) (by decide) hb rfl)
theorem owns_block {w : World} {lo g n c : Nat} {xs : List Value} (o : w.ownsRow lo 52 8 (.slice (some ⟨g, 0, none⟩) n c) n xs) : ∃ rest : List Value, w.heap[g]? = some (.cells (xs ++ rest).toArray 52) ∧ xs.length = n * 8 ∧ (xs ++ rest).length = c * 8 ∧ n ≤ c ∧ c ≤ maxLen ∧ lo ≤ g := by
 rcases o.2 with ⟨e, _⟩ | ⟨g', cap, cur, e, h1, h2, h3, h4, h5, h6⟩
 · cases e
 · cases e
   refine ⟨cur.toList.drop (n * 8), ?_, o.1, ?_, h3, h4, h1⟩
   · rw [← h6, List.take_append_drop]; exact h2
   · rw [← h6, List.take_append_drop]; simpa using h5
theorem block_owns {w : World} {lo g n c : Nat} {xs rest : List Value} (h : w.heap[g]? = some (.cells (xs ++ rest).toArray 52)) (hx : xs.length = n * 8) (hr : (xs ++ rest).length = c * 8) (hn : n ≤ c) (hc : c ≤ maxLen) (hl : lo ≤ g) : w.ownsRow lo 52 8 (.slice (some ⟨g, 0, none⟩) n c) n xs :=
 ⟨hx, .inr ⟨g, c, _, rfl, hl, h, hn, hc, by simpa using hr, by rw [← hx]; simp⟩⟩
theorem block_cell {w : World} {g : Nat} {cs : List Value} {t : TypeId} (h : w.heap[g]? = some (.cells cs.toArray t)) (j : Nat) : w.cell? ⟨g, j, none⟩ = cs[j]? := by rw [cell_of_row _ _ _ _ _ _ h]; simp
theorem block_there {w : World} {g : Nat} {cs : List Value} {t : TypeId} (h : w.heap[g]? = some (.cells cs.toArray t)) {o n : Nat} (hn : o + n ≤ cs.length) : w.there g o n := fun j hj => ⟨by rw [block_cell h, List.getElem?_eq_getElem (by omega)]; rfl, frozen_of_row _ _ _ _ _ h⟩
section
variable {P : Program}
end
end Go.Proofs.YtnhlfkffllbpiaaGreat
/- The library's DeleteFunc over tracks, with the program's test of those that passed. Conditions: at most 2^21 tracks. -/

namespace Go.Proofs.YtnhlfkffllbpiaaGreat
open Go.RowKit
set_option maxRecDepth 100000
theorem mid_box {w : World} {g : Nat} {L R : List Value} {t : Tk} {m : Mt} {ty : TypeId} (h : w.heap[g]? = some (.cells (L ++ (cellsT1 t m ++ R)).toArray ty)) {j : Nat} (hj : L.length = j * 8) : Box8 w g (j * 8) t m.y m.z := by
 have e : ∀ q (hq : q < 8), w.cell? ⟨g, j * 8 + q, none⟩ = (cellsT1 t m)[q]? := fun q hq => by
  rw [block_cell h, List.getElem?_append_right (by omega), hj, Nat.add_sub_cancel_left, List.getElem?_append_left (by simp [cellsT1]; omega)]
 exact ⟨e 0 (by omega), e 1 (by omega), e 2 (by omega), e 3 (by omega), e 4 (by omega), e 5 (by omega), e 6 (by omega), e 7 (by omega)⟩
end Go.Proofs.YtnhlfkffllbpiaaGreat
/- A cell of a row of tracks set; the tracks that are kept; the contract of the program's withoutPassed. Conditions: at most 2^20 tracks. -/

namespace Go.Proofs.YtnhlfkffllbpiaaGreat
open Go.RowKit
set_option maxRecDepth 100000
theorem cP_set {ps : List (Tk × Mt)} {k q : Nat} {u : Value} {t' : Tk} (hk : k < ps.length) (hq : q < 8) (hc : cellsT1 t' ps[k].2 = (cellsT1 ps[k].1 ps[k].2).set q u) : (cP ps).set (k * 8 + q) u = cP (ps.set k (t', ps[k].2)) := by
 have e1 : cP ps = cP (ps.take k) ++ (cellsT1 ps[k].1 ps[k].2 ++ cP (ps.drop (k + 1))) := by
  conv => lhs; rw [← List.take_append_drop k ps, List.drop_eq_getElem_cons hk, cP_app, cP_cons]
 have l1 : (cP (ps.take k)).length = k * 8 := by rw [cP_len, List.length_take]; omega
 have e2 : ps.set k (t', ps[k].2) = ps.take k ++ (t', ps[k].2) :: ps.drop (k + 1) := by rw [List.set_eq_take_append_cons_drop, if_pos hk]
 rw [e2, cP_app, cP_cons, hc, e1, List.set_append_right _ _ (by omega), l1, Nat.add_sub_cancel_left, List.set_append_left _ _ (by simp [cellsT1]; omega)]
theorem owns_set {w : World} {lo g n c : Nat} {xs : List Value} (o : w.ownsRow lo 52 8 (.slice (some ⟨g, 0, none⟩) n c) n xs) {j : Nat} (hj : j < n * 8) (u : Value) : (w.setCell ⟨g, j, none⟩ u).ownsRow lo 52 8 (.slice (some ⟨g, 0, none⟩) n c) n (xs.set j u) := by
 obtain ⟨rest, hG, hx, hr, hnc, hcm, hlo⟩ := owns_block o
 have h1 := heap_setCell_same w g j _ 52 u hG
 rw [List.setIfInBounds_toArray, List.set_append_left _ _ (by omega)] at h1
 exact block_owns h1 (by rw [List.length_set]; exact hx) (by rw [List.length_append, List.length_set, ← List.length_append]; exact hr) hnc hcm hlo
theorem BandsP.set {w : World} {lo hi : Nat} {ps : List (Tk × Mt)} (h : BandsP w lo hi ps) {k : Nat} (hk : k < ps.length) {t' : Tk} (hr : t'.rs = ps[k].1.rs) (hw : t'.ws = ps[k].1.ws) : BandsP w lo hi (ps.set k (t', ps[k].2)) := by
 refine ⟨fun p hp => ?_, ?_⟩
 · rcases List.mem_or_eq_of_mem_set hp with q | rfl
   · exact h.own p q
   · have := h.own _ (List.getElem_mem hk)
     exact ⟨by simp only [hr]; exact this.rd, by simp only [hw]; exact this.wr, this.apart⟩
 · have e : (ps.set k (t', ps[k].2)).map (·.2) = ps.map (·.2) := by
    rw [List.map_set]
    apply List.ext_getElem?
    intro i
    rw [List.getElem?_set]
    by_cases q : k = i
    · subst q; simp [hk]
    · rw [if_neg q]
   have h1 : (ps.map (·.2)).Pairwise (fun p q => ∀ b, blkT p b → ¬ blkT q b) := List.pairwise_map.2 h.apart
   rw [← e] at h1
   exact List.pairwise_map.1 h1
theorem OwnT.cell {w : World} {lo hi g n c : Nat} {ts : List Tk} (h : OwnT w lo hi (.slice (some ⟨g, 0, none⟩) n c) ts) (hl : ts.length = n) {k q : Nat} (hk : k < n) (hq : q < 8) {u : Value} {t' : Tk} (hr : t'.rs = (ts.getD k tk0).rs) (hw : t'.ws = (ts.getD k tk0).ws) (hc : ∀ m, cellsT1 t' m = (cellsT1 (ts.getD k tk0) m).set q u) : OwnT (w.setCell ⟨g, k * 8 + q, none⟩ u) lo hi (.slice (some ⟨g, 0, none⟩) n c) (ts.set k t') := by
 obtain ⟨ps, hps, oR, hBP⟩ := h.pairs
 rw [hl] at oR
 have hlen : ps.length = n := by rw [← hl, ← hps, List.length_map]
 have hkp : k < ps.length := by omega
 have hg : ts.getD k tk0 = ps[k].1 := by rw [← hps]; simp [List.getD, hkp]
 rw [hg] at hr hw hc
 have o2 := owns_set oR (j := k * 8 + q) (by omega) u
 rw [cP_set hkp hq (hc _)] at o2
 have hK := Keeps.set (X := fun b => b = g) w (p := ⟨g, k * 8 + q, none⟩) rfl u
 have b2 := (hBP.off oR hK).set hkp hr hw
 have := b2.own_t (v := .slice (some ⟨g, 0, none⟩) n c) (by rw [List.length_set, hlen]; exact o2) h.top
 rw [List.map_set, hps] at this
 exact this
end Go.Proofs.YtnhlfkffllbpiaaGreat
/- The contract of the program's activeAt. Conditions: at most 2^21 tracks, texts of at most 2^21 bytes. -/


namespace Go.Proofs.YtnhlfkffllbpiaaGreat
open Go.RowKit
set_option maxRecDepth 100000
set_option maxHeartbeats 3200000 in
theorem impl_active1 (xi be en : Int) (al inn ou : Bool) {rs : List (Im × Im)} {ws : List Im} (a1 : Option Addr) (n1 c1 : Nat) (a2 : Option Addr) (n2 c2 : Nat) (x : Int) (B : Nat) {w : World} (hx : w.cell? ⟨B, 0, none⟩ = some (.int .i64 x)) :
 Calls Tryz.prog 56 #[.agg #[.int .i64 xi, .int .i64 be, .int .i64 en, .bool al, .slice a1 n1 c1, .slice a2 n2 c2, .bool inn, .bool ou], .pointer (some ⟨B, 0, none⟩)] w fun e w' => e = .returned (.bool (actB ⟨xi, be, en, al, rs, ws, inn, ou⟩ x)) ∧ Below w.heap.size w w' := by
 have hB := Below.alloc1 w (.cells #[.int .i64 xi, .int .i64 be, .int .i64 en, .bool al, .slice a1 n1 c1, .slice a2 n2 c2, .bool inn, .bool ou] 52)
 have k := (hB.cell (p := ⟨B, 0, none⟩) (World.block_lt_of_cell? w _ hx)).trans hx
 have HB := hid hB
 have HA := hid (show actB ⟨xi, be, en, al, rs, ws, inn, ou⟩ x = (decide (xi = x) && decide (en = 0)) from rfl)
 clear hB hx
 go_enter Tryz.func56, Tryz.ntmps56
 by_cases h1 : xi = x
 · have q1 : (xi == x) = true := by simpa using h1
   have HV := hid (show actB ⟨xi, be, en, al, rs, ws, inn, ou⟩ x = decide (en = 0) by rw [HA.out, decide_eq_true h1, Bool.true_and])
   clear h1
   go_wp2_with fail
   refine (impl_isActive ⟨xi, be, en, al, rs, ws, inn, ou⟩ (.slice a1 n1 c1) (.slice a2 n2 c2) _).mono ?_
   rintro e w1 ⟨rfl, b1⟩
   replace HB := hid (HB.out.trans (b1.mono HB.out.size))
   clear b1
   go_wp2_with fail
   go_ret
   exact ⟨by rw [HV.out]; rfl, HB.out⟩
 · have q1 : (xi == x) = false := by simpa using h1
   have HV := hid (show actB ⟨xi, be, en, al, rs, ws, inn, ou⟩ x = false by rw [HA.out, decide_eq_false h1, Bool.false_and])
   clear h1
   go_wp2_with fail
   go_ret
   exact ⟨by rw [HV.out]; rfl, HB.out⟩
set_option maxHeartbeats 3200000 in
theorem index_active {a : Option Addr} {n : Nat} (c : Nat) {ts : List Tk} {w : World} (h : ReadsT w a ts) (hl : ts.length = n) (hn : n ≤ 2097152) (x : Int) (B : Nat) (hx : w.cell? ⟨B, 0, none⟩ = some (.int .i64 x)) :
 Calls Tryz.prog 55 #[.slice a n c, .func (.func 56) #[] #[.pointer (some ⟨B, 0, none⟩)]] w fun e w' => e = .returned (.int .i64 (atI ts x)) ∧ Below w.heap.size w w' := by
 have HRT := hid h
 have HL := hid hl
 have HX := hid hx
 have HBl := hid (World.block_lt_of_cell? w _ hx)
 clear h hl hx
 go_enter Tryz.func55, Tryz.ntmps55
 go_wp2_with fail
 go_loopw [8] (fun i wr => ∃ k : Nat, k ≤ n ∧ i = .int .i64 k ∧ Hid (∀ j, j < k → actB (ts.getD j tk0) x = false) ∧ Hid (Below w.heap.size w wr)) (fun i _ => n - (intOf i).toNat)
 case atStart => exact ⟨0, Nat.zero_le _, rfl, hid (fun i hi => by omega), hid (Below.refl _ _)⟩
 case round =>
  obtain ⟨k, hk, rfl, HNo, HW⟩ := hrel
  by_cases hlt : k < n
  · have hlt' : (k : Int) < (n : Int) := by omega
    have hk0 : (0 : Int) ≤ (k : Int) := by omega
    obtain ⟨b, off, a1, c1, a2, c2, rfl, bx0, r1, _, r2, _⟩ := HRT.out.at (k := k) (by have := HL.out; omega)
    obtain ⟨y0, y1, y2, y3, y4, y5, y6, y7⟩ := bx0.below HW.out (Nat.le_refl _)
    have HY := hid (fun (e : actB (ts.getD k tk0) x = true) => show atI ts x = (k : Int) by
     unfold atI atT
     rw [atF_at x ts 0 k (by have := HL.out; omega) HNo.out e, Nat.zero_add])
    have HNx := hid (fun (e : actB (ts.getD k tk0) x = false) j (hj : j < k + 1) => show actB (ts.getD j tk0) x = false from by
     by_cases hc : j < k
     · exact HNo.out j hc
     · have : j = k := by omega
       subst this; exact e)
    generalize ts.getD k tk0 = t at *
    obtain ⟨xi, be, en, al, rs, ws, inn, ou⟩ := t
    simp only at y0 y1 y2 y3 y4 y5 y6 y7
    generalize rs.length = n1 at *
    generalize ws.length = n2 at *
    clear bx0 r1 r2
    go_wp2_with fail
    clear y0 y1 y2 y3 y4 y5 y6 y7
    refine (impl_active1 xi be en al inn ou (rs := rs) (ws := ws) a1 n1 c1 a2 n2 c2 x B ((HW.out.cell (p := ⟨B, 0, none⟩) HBl.out).trans HX.out)).mono ?_
    rintro e w1 ⟨rfl, b1⟩
    have HW2 := hid (HW.out.trans (b1.mono HW.out.size))
    clear b1
    cases hin : actB ⟨xi, be, en, al, rs, ws, inn, ou⟩ x with
    | true =>
     have HT := hid (HY.out hin)
     clear hin
     go_wp2_with fail
     go_ret
     exact ⟨by rw [HT.out]; rfl, HW2.out⟩
    | false =>
     have HN2 := hid (HNx.out hin)
     clear hin
     go_wp2_with fail
     go_roundw
     case rel => exact ⟨k + 1, by omega, by go_num, HN2, HW2⟩
     case measure => simp [intOf]; omega
  · have hlt' : ¬ (k : Int) < (n : Int) := by omega
    have HE := hid (show atI ts x = -1 by
     unfold atI atT
     rw [atF_none x ts 0 (fun j hj => HNo.out j (by have := HL.out; omega))])
    go_wp2_with fail
    go_ret
    exact ⟨by rw [HE.out]; rfl, HW.out⟩
noncomputable def actP (ts : List Tk) (x : Int) : Int × Bool := if tracksB ts = true then (atI ts x, decide (0 ≤ atI ts x)) else (0, false)
set_option maxHeartbeats 3200000 in
theorem impl_activeAt {a : Option Addr} {n : Nat} (c : Nat) {ts : List Tk} {w : World} (h : ReadsT w a ts) (hl : ts.length = n) (hn : n ≤ 1048576) (hsm : smT ts) (hbd : bdTs ts) (x : Int) :
 Calls Tryz.prog 27 #[.slice a n c, .int .i64 x] w fun e w' => e = .returned (.tuple #[.int .i64 (actP ts x).1, .bool (actP ts x).2]) ∧ Below w.heap.size w w' := by
 have hB := Below.alloc1 w (.cells #[.int .i64 x] 3)
 have hR := heap_alloc_new w (.cells #[.int .i64 x] 3)
 have HK := hid (show (w.alloc (.cells #[.int .i64 x] 3)).cell? ⟨w.heap.size, 0, none⟩ = some (.int .i64 x) from cell_of_row _ _ 0 _ _ _ hR)
 have HRT := hid (h.below hB (Nat.le_refl _))
 have HB := hid hB
 clear hB h hR
 go_enter Tryz.func27, Tryz.ntmps27
 go_wp2_with fail
 refine (impl_TracksOk c HRT.out hl hsm hbd).mono ?_
 rintro e w1 ⟨rfl, b1⟩
 replace HRT := hid (HRT.out.below b1 (Nat.le_refl _))
 replace HK := hid ((b1.cell (p := ⟨w.heap.size, 0, none⟩) (World.block_lt_of_cell? _ _ HK.out)).trans HK.out)
 replace HB := hid (HB.out.trans (b1.mono HB.out.size))
 clear b1
 cases hv : tracksB ts with
 | false =>
  have HE := hid (show actP ts x = (0, false) by unfold actP; rw [hv]; rfl)
  clear hv
  go_wp2_with fail
  go_ret2
  exact ⟨by rw [HE.out]; rfl, HB.out⟩
 | true =>
  have HE := hid (show actP ts x = (atI ts x, decide (0 ≤ atI ts x)) by unfold actP; rw [hv]; rfl)
  clear hv
  go_wp2_with fail
  refine (index_active c HRT.out hl (by omega) x _ HK.out).mono ?_
  rintro e w2 ⟨rfl, b2⟩
  replace HB := hid (HB.out.trans (b2.mono HB.out.size))
  clear b2
  generalize atI ts x = I at *
  go_wp2_with fail
  go_ret2
  exact ⟨by rw [HE.out]; rfl, HB.out⟩
theorem actP_cases (ts : List Tk) (x : Int) : ((actP ts x).2 = false ∧ (tracksB ts = false ∨ atT ts x = none)) ∨ ∃ k : Nat, actP ts x = ((k : Int), true) ∧ tracksB ts = true ∧ atT ts x = some k := by
 unfold actP
 cases hv : tracksB ts with
 | false => exact .inl ⟨rfl, .inl rfl⟩
 | true =>
  rw [if_pos rfl]
  unfold atI
  cases ha : atT ts x with
  | none => exact .inl ⟨rfl, .inr rfl⟩
  | some k => exact .inr ⟨k, by simp, rfl, rfl⟩
end Go.Proofs.YtnhlfkffllbpiaaGreat
/- The contract of the specification's l13has. Conditions: texts of at most 2^21 bytes, at most 2^21 items. -/


namespace Go.Proofs.YtnhlfkffllbpiaaGreat
open Go.RowKit
set_option maxRecDepth 100000
def hasM (ws : List Im) (x : Im) : Bool := ws.any (fun e => decide (cmpM e x = 0))
theorem hasM_none {ws : List Im} {x : Im} (h : ∀ i, i < ws.length → decide (cmpM (ws.getD i im0) x = 0) = false) : hasM ws x = false := by
 unfold hasM
 rw [List.any_eq_false]
 intro p hp
 obtain ⟨i, hi, rfl⟩ := List.getElem_of_mem hp
 have := h i hi
 rw [show ws.getD i im0 = ws[i] by simp [List.getD, hi]] at this
 rw [this]; simp
theorem hasM_one {ws : List Im} {x : Im} {i : Nat} (hi : i < ws.length) (h : decide (cmpM (ws.getD i im0) x = 0) = true) : hasM ws x = true := by
 unfold hasM
 rw [List.any_eq_true]
 refine ⟨ws[i], List.getElem_mem hi, ?_⟩
 rw [show ws.getD i im0 = ws[i] by simp [List.getD, hi]] at h
 exact h
set_option maxHeartbeats 6400000 in
theorem spec_l13has {ad : Option Addr} {n : Nat} (cap : Nat) {ws : List Im} {KX NX : Int} {FX : Nat} {ZX : List Int} {ax : Option Addr} {m : Nat} (cx : Nat) {w : World} (h : ReadsM w ad ws) (hl : ws.length = n) (hn : n ≤ 2097152) (hM : ZX.length = m) (hx : Reads w ax m ZX) (hfx : FX < 18446744073709551616) (hnx : m ≤ 2097152) (hs : ∀ i, (ws.getD i im0).Z.length ≤ 2097152) :
 Calls Tryz.prog 21 #[.slice ad n cap, .agg #[.int .i64 KX, .int .i64 NX, .float .f64 FX, .slice ax m cx]] w fun e w' => e = .returned (.bool (hasM ws ⟨KX, NX, FX, ZX⟩)) ∧ Below w.heap.size w w' := by
 have hst := fun w a m => run_store Tryz.prog w a (.float .f64 FX) m rfl
 have hB := Below.alloc1 w (.cells #[.int .i64 KX, .int .i64 NX, .float .f64 FX, .slice ax m cx] 33)
 have R1 := heap_alloc_new w (.cells #[.int .i64 KX, .int .i64 NX, .float .f64 FX, .slice ax m cx] 33)
 have z := alloc_size w (.cells #[.int .i64 KX, .int .i64 NX, .float .f64 FX, .slice ax m cx] 33)
 have HRM := hid h
 have HRX := hid hx
 obtain ⟨V, hV⟩ : ∃ V, hasM ws ⟨KX, NX, FX, ZX⟩ = V := ⟨_, rfl⟩
 rw [hV]
 have HV := hid hV
 have HM := hid hM
 have HL := hid hl
 have HS := hid hs
 have HB := hid hB
 have HR1 := hid R1
 have HZ := hid z
 clear hB R1 z h hx hV hM hl hs
 go_enter Tryz.func21, Tryz.ntmps21
 go_wp2_with fail
 obtain ⟨w1, hw1⟩ : ∃ w1, w.alloc (.cells #[.int .i64 KX, .int .i64 NX, .float .f64 FX, .slice ax m cx] 33) = w1 := ⟨_, rfl⟩
 rw [hw1] at HB HR1 HZ
 try rw [hw1]
 clear hw1
 go_loopw [5] (fun i wr => ∃ k : Nat, k ≤ n ∧ i = .int .i64 k ∧ Hid (∀ i, i < k → decide (cmpM (ws.getD i im0) ⟨KX, NX, FX, ZX⟩ = 0) = false) ∧ Hid (Below w1.heap.size w1 wr)) (fun i _ => n - (intOf i).toNat)
 case atStart => exact ⟨0, Nat.zero_le _, rfl, hid (fun i hi => by omega), hid (Below.refl _ _)⟩
 case round =>
  obtain ⟨k, hk, rfl, HNo, HW⟩ := hrel
  have HBW := hid (HB.out.trans (HW.out.mono HB.out.size))
  by_cases hlt : k < n
  · have hlt' : (k : Int) < (n : Int) := by omega
    have hk0 : (0 : Int) ≤ (k : Int) := by omega
    have r1 := (HW.out.block w.heap.size (by have := HZ.out; omega)).trans HR1.out
    obtain ⟨b, off, p1, d1, rfl, bx, q1, _, _, hf1⟩ := HRM.out.at (k := k) (by have := HL.out; omega)
    have hz1 := HS.out k
    have HOne := hid (fun q => hasM_one (ws := ws) (x := ⟨KX, NX, FX, ZX⟩) (i := k) (by have := HL.out; omega) q)
    have HNx := hid (fun (q : decide (cmpM (ws.getD k im0) ⟨KX, NX, FX, ZX⟩ = 0) = false) i (hi : i < k + 1) => show decide (cmpM (ws.getD i im0) ⟨KX, NX, FX, ZX⟩ = 0) = false from by
     by_cases hc : i < k
     · exact HNo.out i hc
     · have : i = k := by omega
       subst this; exact q)
    generalize ws.getD k im0 = pp at *
    obtain ⟨K1, N1, F1, Z1⟩ := pp
    simp only at bx q1 hf1 hz1
    have HCm := hid (show cmpM ⟨K1, N1, F1, Z1⟩ ⟨KX, NX, FX, ZX⟩ = cmpI K1 N1 F1 Z1.length Z1 KX NX FX m ZX by unfold cmpM; simp only [HM.out])
    obtain ⟨m1, hm1⟩ : ∃ m, Z1.length = m := ⟨_, rfl⟩
    rw [hm1] at bx q1 hz1 HCm
    have bD := (Still.drew wr).below wr.heap.size
    have BX := hid ((bx.below HBW.out (Nat.le_refl _)).below bD (Nat.le_refl _))
    have BK := hid (show Box4 wr.drew w.heap.size 0 KX NX FX (.slice ax m cx) from Box4.below (w := wr) ⟨by rw [cell_of_row _ _ _ _ _ _ r1]; rfl, by rw [cell_of_row _ _ _ _ _ _ r1]; rfl, by rw [cell_of_row _ _ _ _ _ _ r1]; rfl, by rw [cell_of_row _ _ _ _ _ _ r1]; rfl⟩ bD (Nat.le_refl _))
    have Q1 := hid ((q1.below HBW.out (Nat.le_refl _)).below bD (Nat.le_refl _))
    have QX := hid ((HRX.out.below HBW.out (Nat.le_refl _)).below bD (Nat.le_refl _))
    have HWD := hid (HW.out.trans (bD.mono HW.out.size))
    clear bx q1 hm1 r1 bD
    go_wp2
    refine region_K 99 (fun W => Box4 W b (off + k * 4) K1 N1 F1 (.slice p1 m1 d1) ∧ Box4 W w.heap.size 0 KX NX FX (.slice ax m cx)) (by kernel_rfl) ?_ (fun hHeld => ?_)
    · exact ⟨BX.out, BK.out⟩
    generalize wr.drew = v0 at *
    refine anyK_take2 (i := 0) (v := ?v0) rfl (by kernel_rfl) (by kernel_rfl) (by kernel_rfl) (by rfl) (fun _ _ _ h => h) (by rfl) hHeld ?hy0 (some 12) (by rfl) ?rest0
    case hy0 => (intro W hSw; obtain ⟨⟨x1, x2, x3, x4⟩, ⟨x5, x6, x7, x8⟩⟩ := hSw; go_simp; (try with_reducible rfl))
    try simp only [Act.put, List.setIfInBounds_toArray, List.set_cons_succ, List.set_cons_zero]
    refine anyK_take2 (i := 1) (v := ?v1) rfl (by kernel_rfl) (by kernel_rfl) (by kernel_rfl) (by rfl) (fun _ _ _ h => h) (by rfl) hHeld ?hy1 (some 13) (by rfl) ?rest1
    case hy1 => (intro W hSw; obtain ⟨⟨x1, x2, x3, x4⟩, ⟨x5, x6, x7, x8⟩⟩ := hSw; go_simp; (try with_reducible rfl))
    try simp only [Act.put, List.setIfInBounds_toArray, List.set_cons_succ, List.set_cons_zero]
    refine anyK_take2 (i := 2) (v := ?v2) rfl (by kernel_rfl) (by kernel_rfl) (by kernel_rfl) (by rfl) (fun _ _ _ h => h) (by rfl) hHeld ?hy2 (some 14) (by rfl) ?rest2
    case hy2 => (intro W hSw; obtain ⟨⟨x1, x2, x3, x4⟩, ⟨x5, x6, x7, x8⟩⟩ := hSw; go_simp; (try with_reducible rfl))
    try simp only [Act.put, List.setIfInBounds_toArray, List.set_cons_succ, List.set_cons_zero]
    refine anyK_take2 (i := 3) (v := ?v3) rfl (by kernel_rfl) (by kernel_rfl) (by kernel_rfl) (by rfl) (fun _ _ _ h => h) (by rfl) hHeld ?hy3 (some 15) (by rfl) ?rest3
    case hy3 => (intro W hSw; obtain ⟨⟨x1, x2, x3, x4⟩, ⟨x5, x6, x7, x8⟩⟩ := hSw; go_simp; (try with_reducible rfl))
    try simp only [Act.put, List.setIfInBounds_toArray, List.set_cons_succ, List.set_cons_zero]
    refine anyK_take2 (i := 4) (v := ?v4) rfl (by kernel_rfl) (by kernel_rfl) (by kernel_rfl) (by rfl) (fun _ _ _ h => h) (by rfl) hHeld ?hy4 (some 16) (by rfl) ?rest4
    case hy4 => (intro W hSw; obtain ⟨⟨x1, x2, x3, x4⟩, ⟨x5, x6, x7, x8⟩⟩ := hSw; go_simp; (try with_reducible rfl))
    try simp only [Act.put, List.setIfInBounds_toArray, List.set_cons_succ, List.set_cons_zero]
    refine anyK_step (i := 5) (by kernel_rfl) rfl (fun KP hK => ?_)
    go_simp
    refine (spec_ItemCompare K1 N1 KX NX F1 FX d1 cx hf1 hfx Q1.out QX.out hz1 hnx).mono ?_
    rintro e u ⟨rfl, b1⟩
    rw [← HCm.out]
    obtain ⟨C, hC⟩ : ∃ C, cmpM ⟨K1, N1, F1, Z1⟩ ⟨KX, NX, FX, ZX⟩ = C := ⟨_, rfl⟩
    rw [hC] at HOne HNx ⊢
    have HW2 := hid (HWD.out.trans (b1.mono HWD.out.size))
    have HH2 := hid (show Box4 u b (off + k * 4) K1 N1 F1 (.slice p1 m1 d1) ∧ Box4 u w.heap.size 0 KX NX FX (.slice ax m cx) from ⟨BX.out.below b1 (Nat.le_refl _), BK.out.below b1 (Nat.le_refl _)⟩)
    clear b1 hC
    go_wp2_with fail
    clear hHeld
    refine hK.out _ _ HH2.out (fun hHeld => ?_)
    clear hK KP
    try simp only [Act.put, List.setIfInBounds_toArray, List.set_cons_succ, List.set_cons_zero]
    refine anyK_take2 (i := 6) (v := ?v6) rfl (by kernel_rfl) (by kernel_rfl) (by kernel_rfl) (by rfl) (fun _ _ _ h => h) (by rfl) hHeld ?hy6 (some 18) (by rfl) ?rest6
    case hy6 => (intro W hSw; obtain ⟨⟨x1, x2, x3, x4⟩, ⟨x5, x6, x7, x8⟩⟩ := hSw; go_simp; (try with_reducible rfl))
    try simp only [Act.put, List.setIfInBounds_toArray, List.set_cons_succ, List.set_cons_zero]
    refine anyK_done (by kernel_rfl) ?_ _
    clear hHeld
    by_cases h0 : C = 0
    · have HT := hid (show V = true by rw [← HV.out]; exact HOne.out (decide_eq_true h0))
      have HBF := hid (HB.out.trans (HW2.out.mono HB.out.size))
      have hq : (C == 0) = true := by simpa using h0
      clear h0
      go_wp2_with fail
      go_ret
      exact ⟨by rw [HT.out]; rfl, HBF.out⟩
    · have HN2 := hid (HNx.out (decide_eq_false h0))
      have hq : (C == 0) = false := by simpa using h0
      clear h0
      go_wp2_with fail
      go_roundw
      case rel => exact ⟨k + 1, by omega, by go_num, HN2, HW2⟩
      case measure => simp [intOf]; omega
  · have hlt' : ¬ (k : Int) < (n : Int) := by omega
    have hke : k = n := by omega
    subst hke
    have HF := hid (show V = false by rw [← HV.out]; exact hasM_none (fun i hi => HNo.out i (by have := HL.out; omega)))
    go_wp2_with fail
    go_ret
    exact ⟨by rw [HF.out]; rfl, HBW.out⟩
end Go.Proofs.YtnhlfkffllbpiaaGreat
/- What a read or a write does to tracks, plain. No statement of its own; no conditions. -/



namespace Go.Proofs.YtnhlfkffllbpiaaGreat
open Go.RowKit
set_option maxRecDepth 100000
def oth (r : Bool) (t : Tk) : Tk := if r = true then ⟨t.xid, t.begun, t.ended, t.all, t.rs, t.ws, true, t.out⟩ else ⟨t.xid, t.begun, t.ended, t.all, t.rs, t.ws, t.inn, true⟩
theorem oth_oth (r : Bool) (t : Tk) : oth r (oth r t) = oth r t := by cases r <;> rfl
theorem oth_rs (r : Bool) (t : Tk) : (oth r t).rs = t.rs ∧ (oth r t).ws = t.ws ∧ (oth r t).begun = t.begun ∧ (oth r t).ended = t.ended ∧ (oth r t).all = t.all ∧ (oth r t).xid = t.xid := by cases r <;> exact ⟨rfl, rfl, rfl, rfl, rfl, rfl⟩
def dng (r : Bool) (o : Tk) : Bool := decide (o.ended ≠ 0) && (if r = true then o.out else o.inn)
theorem dng_oth (r : Bool) (o : Tk) : dng r o = (!decide ((oth r o).ended = 0) && ((oth r o).inn && (oth r o).out)) := by
 cases r <;> simp [dng, oth]
def mkJ (r : Bool) (M : Nat → Bool) (ts : List Tk) : Nat → List Tk
 | 0 => ts
 | i + 1 => if M i = true then (mkJ r M ts i).set i (oth r (ts.getD i tk0)) else mkJ r M ts i
theorem mkJ_len (r : Bool) (M : Nat → Bool) (ts : List Tk) : ∀ i, (mkJ r M ts i).length = ts.length
 | 0 => rfl
 | i + 1 => by
  unfold mkJ
  split
  · rw [List.length_set]; exact mkJ_len r M ts i
  · exact mkJ_len r M ts i
theorem getD_set {α : Type} (l : List α) (i j : Nat) (x d : α) (hi : i < l.length) : (l.set i x).getD j d = if i = j then x else l.getD j d := by
 rw [List.getD_eq_getElem?_getD, List.getElem?_set, List.getD_eq_getElem?_getD]
 by_cases h : i = j
 · subst h; simp [hi]
 · rw [if_neg h, if_neg h]
theorem mkJ_at (r : Bool) (M : Nat → Bool) (ts : List Tk) : ∀ i, i ≤ ts.length → ∀ j, i ≤ j → (mkJ r M ts i).getD j tk0 = ts.getD j tk0
 | 0, _, _, _ => rfl
 | i + 1, hi, j, hj => by
  unfold mkJ
  split
  · rw [getD_set _ _ _ _ _ (by rw [mkJ_len]; omega), if_neg (by omega)]
    exact mkJ_at r M ts i (by omega) j (by omega)
  · exact mkJ_at r M ts i (by omega) j (by omega)
def anyJ (M : Nat → Bool) (i : Nat) : Bool := (List.range i).any M
theorem anyJ_succ (M : Nat → Bool) (i : Nat) : anyJ M (i + 1) = (anyJ M i || M i) := by unfold anyJ; rw [List.range_succ, List.any_append]; simp
def dngJ (r : Bool) (M : Nat → Bool) (ts : List Tk) (i : Nat) : Bool := anyJ (fun j => M j && dng r (ts.getD j tk0)) i
def cdJ (r : Bool) (M : Nat → Bool) (ts : List Tk) (i : Nat) : Int := if dngJ r M ts i = true then 2 else 0
theorem cdJ_succ (r : Bool) (M : Nat → Bool) (ts : List Tk) (i : Nat) : cdJ r M ts (i + 1) = if (M i && dng r (ts.getD i tk0)) = true then 2 else cdJ r M ts i := by
 unfold cdJ dngJ
 rw [anyJ_succ]
 cases h : (M i && dng r (ts.getD i tk0)) <;> simp
def tJ (r : Bool) (M : Nat → Bool) (t : Tk) (i : Nat) : Tk := if anyJ M i = true then oth (!r) t else t
theorem tJ_succ (r : Bool) (M : Nat → Bool) (t : Tk) (i : Nat) : tJ r M t (i + 1) = if M i = true then oth (!r) (tJ r M t i) else tJ r M t i := by
 unfold tJ
 rw [anyJ_succ]
 cases h1 : anyJ M i <;> cases h2 : M i <;> simp [oth_oth]
theorem tJ_rs (r : Bool) (M : Nat → Bool) (t : Tk) (i : Nat) : (tJ r M t i).rs = t.rs ∧ (tJ r M t i).ws = t.ws ∧ (tJ r M t i).begun = t.begun ∧ (tJ r M t i).ended = t.ended ∧ (tJ r M t i).all = t.all ∧ (tJ r M t i).xid = t.xid := by
 unfold tJ
 split
 · exact oth_rs _ _
 · exact ⟨rfl, rfl, rfl, rfl, rfl, rfl⟩
def pJ (r : Bool) (M : Nat → Bool) (ts : List Tk) (k : Nat) (t : Tk) (i : Nat) : List Tk := (mkJ r M ts i).set k (tJ r M t i)
theorem pJ_len (r : Bool) (M : Nat → Bool) (ts : List Tk) (k : Nat) (t : Tk) (i : Nat) : (pJ r M ts k t i).length = ts.length := by unfold pJ; rw [List.length_set, mkJ_len]
theorem pJ_own (r : Bool) (M : Nat → Bool) (ts : List Tk) {k : Nat} (t : Tk) (i : Nat) (hk : k < ts.length) : (pJ r M ts k t i).getD k tk0 = tJ r M t i := by
 unfold pJ
 rw [getD_set _ _ _ _ _ (by rw [mkJ_len]; exact hk), if_pos rfl]
theorem pJ_oth (r : Bool) (M : Nat → Bool) (ts : List Tk) {k : Nat} (t : Tk) {i : Nat} (hk : k < ts.length) (hi : i ≤ ts.length) (hne : i ≠ k) : (pJ r M ts k t i).getD i tk0 = ts.getD i tk0 := by
 unfold pJ
 rw [getD_set _ _ _ _ _ (by rw [mkJ_len]; exact hk), if_neg (fun e => hne e.symm)]
 exact mkJ_at r M ts i hi i (Nat.le_refl _)
theorem pJ_yes (r : Bool) (M : Nat → Bool) (ts : List Tk) {k : Nat} (t : Tk) {i : Nat} (hne : i ≠ k) (hM : M i = true) : pJ r M ts k t (i + 1) = ((pJ r M ts k t i).set k (oth (!r) (tJ r M t i))).set i (oth r (ts.getD i tk0)) := by
 have e : mkJ r M ts (i + 1) = (mkJ r M ts i).set i (oth r (ts.getD i tk0)) := by
  conv => lhs; unfold mkJ
  rw [if_pos hM]
 unfold pJ
 rw [tJ_succ, if_pos hM, e, List.set_set, List.set_comm _ _ hne]
theorem pJ_no (r : Bool) (M : Nat → Bool) (ts : List Tk) (k : Nat) (t : Tk) {i : Nat} (hM : M i = false) : pJ r M ts k t (i + 1) = pJ r M ts k t i := by
 have e : mkJ r M ts (i + 1) = mkJ r M ts i := by
  conv => lhs; unfold mkJ
  rw [if_neg (by rw [hM]; simp)]
 unfold pJ
 rw [tJ_succ, if_neg (by rw [hM]; simp), e]
def met (hit : Tk → Bool) (ow : Tk) (k : Nat) (ts : List Tk) (i : Nat) : Bool := !(decide (i = k)) && (concB ow (ts.getD i tk0) && hit (ts.getD i tk0))
def lastC (r : Bool) (M : Nat → Bool) (ts : List Tk) (t : Tk) : Int := if ((tJ r M t ts.length).inn && (tJ r M t ts.length).out) = true then 2 else cdJ r M ts ts.length
theorem concB_of {t u t' : Tk} (h1 : t'.begun = t.begun) (h2 : t'.ended = t.ended) : concB t' u = concB t u := by unfold concB; rw [h1, h2]
def readT (t : Tk) (s : Im × Im) : Tk := if t.all = true then t else if 6 ≤ t.rs.length then ⟨t.xid, t.begun, t.ended, true, [], t.ws, t.inn, t.out⟩ else ⟨t.xid, t.begun, t.ended, false, t.rs ++ [s], t.ws, t.inn, t.out⟩
def hitW (s : Im × Im) (o : Tk) : Bool := o.ws.any (fun e => inM s e)
noncomputable def readS (ts : List Tk) (x : Int) (s : Im × Im) : List Tk := if (tracksB ts && spB s) = true then (match atT ts x with
 | none => []
 | some k => pJ true (met (hitW s) (ts.getD k tk0) k ts) ts k (readT (ts.getD k tk0) s) ts.length) else []
noncomputable def readC (ts : List Tk) (x : Int) (s : Im × Im) : Int := if (tracksB ts && spB s) = true then (match atT ts x with
 | none => 1
 | some k => lastC true (met (hitW s) (ts.getD k tk0) k ts) ts (readT (ts.getD k tk0) s)) else 1
def writeT (t : Tk) (x : Im) : Tk := if hasM t.ws x = true then t else ⟨t.xid, t.begun, t.ended, t.all, t.rs, t.ws ++ [x], t.inn, t.out⟩
theorem writeT_be (t : Tk) (x : Im) : (writeT t x).begun = t.begun ∧ (writeT t x).ended = t.ended ∧ (writeT t x).rs = t.rs := by
 unfold writeT
 split <;> exact ⟨rfl, rfl, rfl⟩
def hitR (x : Im) (o : Tk) : Bool := readsB o x
def wrOk (ts : List Tk) (k : Nat) (e : Im) : Bool := decide ((writeT (ts.getD k tk0) e).ws.length ≤ 200)
noncomputable def writeS (ts : List Tk) (x : Int) (e : Im) : List Tk := if (tracksB ts && okM e) = true then (match atT ts x with
 | none => []
 | some k => if wrOk ts k e = true then pJ false (met (hitR e) (ts.getD k tk0) k ts) ts k (writeT (ts.getD k tk0) e) ts.length else []) else []
noncomputable def writeC (ts : List Tk) (x : Int) (e : Im) : Int := if (tracksB ts && okM e) = true then (match atT ts x with
 | none => 1
 | some k => if wrOk ts k e = true then lastC false (met (hitR e) (ts.getD k tk0) k ts) ts (writeT (ts.getD k tk0) e) else 1) else 1
theorem write_no {ts : List Tk} {x : Int} {s : Im} (h : okM s = false ∨ tracksB ts = false ∨ atT ts x = none) : writeS ts x s = [] ∧ writeC ts x s = 1 := by
 unfold writeS writeC
 rcases h with h | h | h
 · rw [h, Bool.and_false]; exact ⟨rfl, rfl⟩
 · rw [h, Bool.false_and]; exact ⟨rfl, rfl⟩
 · rw [h]
   cases (tracksB ts && okM s) <;> exact ⟨rfl, rfl⟩
theorem write_yes {ts : List Tk} {x : Int} {s : Im} {k : Nat} (h1 : okM s = true) (h2 : tracksB ts = true) (h3 : atT ts x = some k) : writeS ts x s = (if wrOk ts k s = true then pJ false (met (hitR s) (ts.getD k tk0) k ts) ts k (writeT (ts.getD k tk0) s) ts.length else []) ∧ writeC ts x s = (if wrOk ts k s = true then lastC false (met (hitR s) (ts.getD k tk0) k ts) ts (writeT (ts.getD k tk0) s) else 1) := by
 unfold writeS writeC
 rw [h1, h2, h3]
 exact ⟨rfl, rfl⟩
theorem okTs_of {ts : List Tk} (h : tracksB ts = true) : okTs ts := by
 by_cases q : okTs ts
 · exact q
 · rw [tracksB_no q] at h; cases h
theorem track_small {t : Tk} (h : trackB t = true) : t.rs.length ≤ 6 ∧ t.ws.length ≤ 200 ∧ (t.all = false ∨ t.rs.length = 0) ∧ (t.ended = 0 ∨ 0 < t.ended) := by
 unfold trackB at h
 simp only [Bool.and_eq_true, decide_eq_true_eq] at h
 obtain ⟨_, h2, h3, h4, h5, h6, _⟩ := h
 exact ⟨h4, h6, h5, by omega⟩
end Go.Proofs.YtnhlfkffllbpiaaGreat
/- The contracts of the program's (Span).has, TrackReads. Conditions: texts of at most 2^21 bytes, at most 2^21 reads. -/

namespace Go.Proofs.YtnhlfkffllbpiaaGreat
open Go.RowKit
set_option maxRecDepth 100000
set_option maxHeartbeats 3200000 in
theorem impl_spanHas (K1 N1 : Int) (F1 : Nat) {p1 : Option Addr} {m1 : Nat} (d1 : Nat) (K2 N2 : Int) (F2 : Nat) {p2 : Option Addr} {m2 : Nat} (d2 : Nat) (KX NX : Int) (FX : Nat) {ax : Option Addr} {m : Nat} (cx : Nat) {Z1 Z2 ZX : List Int} {w : World} (q1 : Reads w p1 m1 Z1) (q2 : Reads w p2 m2 Z2) (qx : Reads w ax m ZX) (hf1 : F1 < 18446744073709551616) (hf2 : F2 < 18446744073709551616) (hfx : FX < 18446744073709551616) (hz1 : m1 ≤ 2097152) (hz2 : m2 ≤ 2097152) (hzx : m ≤ 2097152) :
 Calls Tryz.prog 90 #[.agg #[.int .i64 K1, .int .i64 N1, .float .f64 F1, .slice p1 m1 d1, .int .i64 K2, .int .i64 N2, .float .f64 F2, .slice p2 m2 d2], .agg #[.int .i64 KX, .int .i64 NX, .float .f64 FX, .slice ax m cx]] w fun e w' => e = .returned (.bool (inM (⟨K1, N1, F1, Z1⟩, ⟨K2, N2, F2, Z2⟩) ⟨KX, NX, FX, ZX⟩)) ∧ Below w.heap.size w w' := by
 have HIn := hid (show inM (⟨K1, N1, F1, Z1⟩, ⟨K2, N2, F2, Z2⟩) ⟨KX, NX, FX, ZX⟩ = inSp K1 N1 F1 m1 Z1 K2 N2 F2 m2 Z2 KX NX FX m ZX by unfold inM; simp only [q1.len, q2.len, qx.len])
 have hst := fun w a m => run_store Tryz.prog w a (.float .f64 F1) m rfl
 have hst2 := fun w a m => run_store Tryz.prog w a (.float .f64 F2) m rfl
 have hst3 := fun w a m => run_store Tryz.prog w a (.float .f64 FX) m rfl
 have hB := two w (.cells #[.int .i64 K1, .int .i64 N1, .float .f64 F1, .slice p1 m1 d1, .int .i64 K2, .int .i64 N2, .float .f64 F2, .slice p2 m2 d2] 78) (.cells #[.int .i64 KX, .int .i64 NX, .float .f64 FX, .slice ax m cx] 33)
 have HQ1 := hid (q1.below hB (Nat.le_refl _))
 have HQ2 := hid (q2.below hB (Nat.le_refl _))
 have HQX := hid (qx.below hB (Nat.le_refl _))
 have HB := hid hB
 clear hB q1 q2 qx
 go_enter Tryz.func90, Tryz.ntmps90
 go_wp2_with fail
 refine (impl_InSpan K1 N1 K2 N2 KX NX F1 F2 FX d1 d2 cx hf1 hf2 hfx HQ1.out HQ2.out HQX.out hz1 hz2 hzx).mono ?_
 rintro e w1 ⟨rfl, b1⟩
 rw [← HIn.out]
 replace HB := hid (HB.out.trans (b1.mono HB.out.size))
 clear b1
 go_wp2_with fail
 go_ret
 exact ⟨rfl, HB.out⟩
set_option maxHeartbeats 3200000 in
theorem impl_reads1 (K1 N1 : Int) (F1 : Nat) {p1 : Option Addr} {m1 : Nat} (d1 : Nat) (K2 N2 : Int) (F2 : Nat) {p2 : Option Addr} {m2 : Nat} (d2 : Nat) (KX NX : Int) (FX : Nat) {ax : Option Addr} {m : Nat} (cx : Nat) {Z1 Z2 ZX : List Int} {w : World} (q1 : Reads w p1 m1 Z1) (q2 : Reads w p2 m2 Z2) (qx : Reads w ax m ZX) (hf1 : F1 < 18446744073709551616) (hf2 : F2 < 18446744073709551616) (hfx : FX < 18446744073709551616) (hz1 : m1 ≤ 2097152) (hz2 : m2 ≤ 2097152) (hzx : m ≤ 2097152) (g : Nat) (bx : BoxJ w g KX NX FX (.slice ax m cx)) :
 Calls Tryz.prog 89 #[.agg #[.int .i64 K1, .int .i64 N1, .float .f64 F1, .slice p1 m1 d1, .int .i64 K2, .int .i64 N2, .float .f64 F2, .slice p2 m2 d2], .pointer (some ⟨g, 0, none⟩)] w fun e w' => e = .returned (.bool (inM (⟨K1, N1, F1, Z1⟩, ⟨K2, N2, F2, Z2⟩) ⟨KX, NX, FX, ZX⟩)) ∧ Below w.heap.size w w' := by
 have hst := fun w a m => run_store Tryz.prog w a (.float .f64 F1) m rfl
 have hst2 := fun w a m => run_store Tryz.prog w a (.float .f64 F2) m rfl
 have hst3 := fun w a m => run_store Tryz.prog w a (.float .f64 FX) m rfl
 have hB := Below.alloc1 w (.cells #[.int .i64 K1, .int .i64 N1, .float .f64 F1, .slice p1 m1 d1, .int .i64 K2, .int .i64 N2, .float .f64 F2, .slice p2 m2 d2] 78)
 have HQ1 := hid (q1.below hB (Nat.le_refl _))
 have HQ2 := hid (q2.below hB (Nat.le_refl _))
 have HQX := hid (qx.below hB (Nat.le_refl _))
 have HB := hid hB
 obtain ⟨c0, c1, c2, c3⟩ := bx.below hB (Nat.le_refl _)
 clear hB q1 q2 qx bx
 go_enter Tryz.func89, Tryz.ntmps89
 go_wp2_with fail
 clear c0 c1 c2 c3
 refine (impl_spanHas K1 N1 F1 d1 K2 N2 F2 d2 KX NX FX cx HQ1.out HQ2.out HQX.out hf1 hf2 hfx hz1 hz2 hzx).mono ?_
 rintro e w1 ⟨rfl, b1⟩
 replace HB := hid (HB.out.trans (b1.mono HB.out.size))
 clear b1
 go_wp2_with fail
 go_ret
 exact ⟨rfl, HB.out⟩
set_option maxHeartbeats 3200000 in
theorem index_reads {a : Option Addr} {n : Nat} (c : Nat) {rs : List (Im × Im)} (KX NX : Int) (FX : Nat) {ax : Option Addr} {m : Nat} (cx : Nat) {ZX : List Int} {w : World} (h : ReadsM w a (fl2 rs)) (hl : rs.length = n) (hn : n ≤ 2097152) (hs : ∀ i, ((fl2 rs).getD i im0).Z.length ≤ 2097152) (qx : Reads w ax m ZX) (hfx : FX < 18446744073709551616) (hzx : m ≤ 2097152) (g : Nat) (bx : BoxJ w g KX NX FX (.slice ax m cx)) :
 Calls Tryz.prog 101 #[.slice a n c, .func (.func 89) #[] #[.pointer (some ⟨g, 0, none⟩)]] w fun e w' => ∃ r : Int, e = .returned (.int .i64 r) ∧ decide (0 ≤ r) = rs.any (fun p => inM p ⟨KX, NX, FX, ZX⟩) ∧ Below w.heap.size w w' := by
 have HRM := hid h
 have HL := hid hl
 have HS := hid hs
 have HQX := hid qx
 have HBX := hid bx
 clear h hl hs qx bx
 go_enter Tryz.func101, Tryz.ntmps101
 go_wp2_with fail
 go_loopw [8] (fun i wr => ∃ k : Nat, k ≤ n ∧ i = .int .i64 k ∧ Hid (∀ i, i < k → inM (rs.getD i sp0) ⟨KX, NX, FX, ZX⟩ = false) ∧ Hid (Below w.heap.size w wr)) (fun i _ => n - (intOf i).toNat)
 case atStart => exact ⟨0, Nat.zero_le _, rfl, hid (fun i hi => by omega), hid (Below.refl _ _)⟩
 case round =>
  obtain ⟨k, hk, rfl, HNo, HW⟩ := hrel
  by_cases hlt : k < n
  · have hlt' : (k : Int) < (n : Int) := by omega
    have hk0 : (0 : Int) ≤ (k : Int) := by omega
    have hl2 : (fl2 rs).length = n * 2 := by rw [fl2_len, HL.out]
    obtain ⟨b, off, p1, d1, rfl, bx, q1, _, _, hf1⟩ := HRM.out.at (k := k * 2) (by omega)
    obtain ⟨b', off', p2, d2, e', by', q2, _, _, hf2⟩ := HRM.out.at (k := k * 2 + 1) (by omega)
    obtain ⟨rfl, rfl⟩ : b = b' ∧ off = off' := by simpa using e'
    have hz1 := HS.out (k * 2)
    have hz2 := HS.out (k * 2 + 1)
    have hat := fl2_at rs k
    rw [hat.1] at bx q1 hf1 hz1
    rw [hat.2] at by' q2 hf2 hz2
    have HOne := hid (fun q => any_one (rs := rs) (x := ⟨KX, NX, FX, ZX⟩) (i := k) (by have := HL.out; omega) q)
    have HNx := hid (fun (q : inM (rs.getD k sp0) ⟨KX, NX, FX, ZX⟩ = false) i (hi : i < k + 1) => show inM (rs.getD i sp0) ⟨KX, NX, FX, ZX⟩ = false from by
     by_cases hc : i < k
     · exact HNo.out i hc
     · have : i = k := by omega
       subst this; exact q)
    generalize rs.getD k sp0 = pp at *
    obtain ⟨⟨K1, N1, F1, Z1⟩, K2, N2, F2, Z2⟩ := pp
    simp only at bx by' q1 q2 hf1 hf2 hz1 hz2
    obtain ⟨m1, hm1⟩ : ∃ m, Z1.length = m := ⟨_, rfl⟩
    obtain ⟨m2, hm2⟩ : ∃ m, Z2.length = m := ⟨_, rfl⟩
    rw [hm1] at bx q1 hz1
    rw [hm2] at by' q2 hz2
    rw [show off + k * 2 * 4 = off + k * 8 by omega] at bx
    rw [show off + (k * 2 + 1) * 4 = off + k * 8 + 4 by omega] at by'
    obtain ⟨x0, x1, x2, x3⟩ := bx.below HW.out (Nat.le_refl _)
    obtain ⟨x4, x5, x6, x7⟩ := by'.below HW.out (Nat.le_refl _)
    have Q1 := hid (q1.below HW.out (Nat.le_refl _))
    have Q2 := hid (q2.below HW.out (Nat.le_refl _))
    clear bx by' q1 q2 hm1 hm2 hat hl2 e'
    go_wp2_with fail
    clear x0 x1 x2 x3 x4 x5 x6 x7
    refine (impl_reads1 K1 N1 F1 d1 K2 N2 F2 d2 KX NX FX cx Q1.out Q2.out (HQX.out.below HW.out (Nat.le_refl _)) hf1 hf2 hfx hz1 hz2 hzx g (HBX.out.below HW.out (Nat.le_refl _))).mono ?_
    rintro e w1 ⟨rfl, b1⟩
    have HW2 := hid (HW.out.trans (b1.mono HW.out.size))
    clear b1
    cases hin : inM (⟨K1, N1, F1, Z1⟩, ⟨K2, N2, F2, Z2⟩) ⟨KX, NX, FX, ZX⟩ with
    | true =>
     have HT := hid (HOne.out hin)
     clear hin
     go_wp2_with fail
     go_ret
     exact ⟨_, rfl, by rw [HT.out]; exact decide_eq_true hk0, HW2.out⟩
    | false =>
     have HN2 := hid (HNx.out hin)
     clear hin
     go_wp2_with fail
     go_roundw
     case rel => exact ⟨k + 1, by omega, by go_num, HN2, HW2⟩
     case measure => simp [intOf]; omega
  · have hlt' : ¬ (k : Int) < (n : Int) := by omega
    have HE := hid (any_none (rs := rs) (x := ⟨KX, NX, FX, ZX⟩) (fun i hi => HNo.out i (by have := HL.out; omega)))
    go_wp2_with fail
    go_ret
    exact ⟨_, rfl, by rw [HE.out]; decide, HW.out⟩
set_option maxHeartbeats 1600000 in
theorem contains_reads {a : Option Addr} {n : Nat} (c : Nat) {rs : List (Im × Im)} (KX NX : Int) (FX : Nat) {ax : Option Addr} {m : Nat} (cx : Nat) {ZX : List Int} {w : World} (h : ReadsM w a (fl2 rs)) (hl : rs.length = n) (hn : n ≤ 2097152) (hs : ∀ i, ((fl2 rs).getD i im0).Z.length ≤ 2097152) (qx : Reads w ax m ZX) (hfx : FX < 18446744073709551616) (hzx : m ≤ 2097152) (g : Nat) (bx : BoxJ w g KX NX FX (.slice ax m cx)) :
 Calls Tryz.prog 91 #[.slice a n c, .func (.func 89) #[] #[.pointer (some ⟨g, 0, none⟩)]] w fun e w' => e = .returned (.bool (rs.any (fun p => inM p ⟨KX, NX, FX, ZX⟩))) ∧ Below w.heap.size w w' := by
 go_enter Tryz.func91, Tryz.ntmps91
 go_wp2_with fail
 refine (index_reads c KX NX FX cx h hl hn hs qx hfx hzx g bx).mono ?_
 rintro e w1 ⟨r, rfl, hr, b⟩
 have HB := hid b
 have HR := hid hr
 clear b hr
 go_wp2_with fail
 go_ret
 exact ⟨by rw [← HR.out]; rfl, HB.out⟩
set_option maxHeartbeats 3200000 in
theorem impl_TrackReads (t : Tk) (x : Im) {a1 : Option Addr} {n1 : Nat} (c1 : Nat) (y : Value) {ax : Option Addr} {m : Nat} (cx : Nat) {w : World} (hn1 : t.rs.length = n1) (hm : x.Z.length = m) (h : ReadsM w a1 (fl2 t.rs)) (hx : Reads w ax m x.Z) (hfx : x.F < 18446744073709551616) (hnx : m ≤ 2097152) (hs : ∀ i, ((fl2 t.rs).getD i im0).Z.length ≤ 2097152) (hn : n1 ≤ 2097152) (_ : bdT1 t) :
 Calls Tryz.prog 68 #[tkV t (.slice a1 n1 c1) y, imV x (.slice ax m cx)] w fun e w' => e = .returned (.bool (readsB t x)) ∧ Below w.heap.size w w' := by
 obtain ⟨xi, be, en, al, rs, ws, inn, ou⟩ := t
 obtain ⟨KX, NX, FX, ZX⟩ := x
 simp only at h hx hfx hs hn1 hm
 have hst := fun w a m => run_store Tryz.prog w a (.float .f64 FX) m rfl
 have hB := two w (.cells #[.int .i64 xi, .int .i64 be, .int .i64 en, .bool al, .slice a1 n1 c1, y, .bool inn, .bool ou] 52) (.cells #[.int .i64 KX, .int .i64 NX, .float .f64 FX, .slice ax m cx] 33)
 obtain ⟨R1, R2, z⟩ := two_rows13 w (.cells #[.int .i64 xi, .int .i64 be, .int .i64 en, .bool al, .slice a1 n1 c1, y, .bool inn, .bool ou] 52) (.cells #[.int .i64 KX, .int .i64 NX, .float .f64 FX, .slice ax m cx] 33)
 have HA0 := hid (BoxK.row R1)
 have HA1 := hid (BoxJ.row R2)
 have HB := hid hB
 have HRM := hid h
 have HRX := hid hx
 have HN1 := hid hn1
 have HSS := hid hs
 obtain ⟨V, hV⟩ : ∃ V, readsB ⟨xi, be, en, al, rs, ws, inn, ou⟩ ⟨KX, NX, FX, ZX⟩ = V := ⟨_, rfl⟩
 rw [hV]
 have HV := hid (show V = (okK KX NX FX m && (rs.any (fun p => inM p ⟨KX, NX, FX, ZX⟩) || al)) by rw [← hV]; unfold readsB okM; simp only [hm])
 clear hB R1 R2 z h hx hV hn1 hs
 go_enter Tryz.func68, Tryz.ntmps68
 go_wp2_with fail
 refine (impl_KeyOk KX NX FX ax m cx hfx hnx _).mono ?_
 rintro e w1 ⟨rfl, b⟩
 replace HA0 := hid (HA0.out.below b (Nat.le_refl _))
 replace HA1 := hid (HA1.out.below b (Nat.le_refl _))
 replace HB := hid (HB.out.trans (b.mono HB.out.size))
 clear b
 cases hk : okK KX NX FX m with
 | false =>
  have HF := hid (show V = false by rw [HV.out, hk]; rfl)
  clear hk
  go_wp2_with fail
  go_ret
  exact ⟨by rw [HF.out]; rfl, HB.out⟩
 | true =>
  replace HV := hid (show V = (rs.any (fun p => inM p ⟨KX, NX, FX, ZX⟩) || al) by rw [HV.out, hk]; rfl)
  clear hk
  have k3 := HA0.out.c3
  have k4 := HA0.out.c4
  cases al with
  | true =>
   go_wp2_with fail
   go_ret
   exact ⟨by rw [HV.out, Bool.or_true]; rfl, HB.out⟩
  | false =>
   go_wp2_with fail
   clear k3 k4
   refine (contains_reads c1 KX NX FX cx (HRM.out.below HB.out (Nat.le_refl _)) HN1.out hn HSS.out (HRX.out.below HB.out (Nat.le_refl _)) hfx hnx _ HA1.out).mono ?_
   rintro e w2 ⟨rfl, b⟩
   replace HB := hid (HB.out.trans (b.mono HB.out.size))
   clear b
   go_wp2_with fail
   go_ret
   exact ⟨by rw [HV.out, Bool.or_false]; rfl, HB.out⟩
end Go.Proofs.YtnhlfkffllbpiaaGreat
/- The touch of a read, of the program: whom it meets, what it marks. Conditions: texts of at most 2^21 bytes, at most 2^21 writes. -/


namespace Go.Proofs.YtnhlfkffllbpiaaGreat
open Go.RowKit
set_option maxRecDepth 100000
theorem impl_markEdge {g n c lo hi : Nat} {L : List Tk} {w : World} (h : OwnT w lo hi (.slice (some ⟨g, 0, none⟩) n c) L) (hl : L.length = n) {k i : Nat} (hk : k < n) (hi' : i < n) (hne : i ≠ k) :
 Calls Tryz.prog 70 #[.pointer (some ⟨g, k * 8, none⟩), .pointer (some ⟨g, i * 8, none⟩)] w fun e w' => e = .returned (.tuple #[]) ∧ OwnT w' lo hi (.slice (some ⟨g, 0, none⟩) n c) ((L.set k (oth false (L.getD k tk0))).set i (oth true (L.getD i tk0))) ∧ Keeps (fun b => b = g) w w' ∧ w'.heap.size = w.heap.size := by
 obtain ⟨ms, hml, oR, _, _⟩ := h.own
 rw [hl] at oR
 have h1 := OwnT.cell (q := 7) (u := .bool true) (t' := oth false (L.getD k tk0)) h hl hk (by omega) rfl rfl (fun m => rfl)
 have hgi : (L.set k (oth false (L.getD k tk0))).getD i tk0 = L.getD i tk0 := by rw [getD_set _ _ _ _ _ (by omega), if_neg (fun e => hne e.symm)]
 have h2 := OwnT.cell (q := 6) (u := .bool true) (t' := oth true (L.getD i tk0)) h1 (by rw [List.length_set]; exact hl) hi' (by omega) (by rw [hgi]; rfl) (by rw [hgi]; rfl) (fun m => by rw [hgi]; rfl)
 have HF := hid h2
 have c7 : ∃ v, w.cell? ⟨g, k * 8 + 7, none⟩ = some v := ⟨_, (oR.cellAt (k * 8 + 7) (by omega)).trans (List.getElem?_eq_getElem (by have := oR.1; omega))⟩
 have c6 : ∃ v, w.cell? ⟨g, i * 8 + 6, none⟩ = some v := ⟨_, (oR.cellAt (i * 8 + 6) (by omega)).trans (List.getElem?_eq_getElem (by have := oR.1; omega))⟩
 obtain ⟨v7, c7⟩ := c7
 obtain ⟨v6, c6⟩ := c6
 have f7 : w.frozen? ⟨g, k * 8 + 7, none⟩ = false := oR.frozenAt _
 have f6 : w.frozen? ⟨g, i * 8 + 6, none⟩ = false := oR.frozenAt _
 have HK := hid ((Keeps.set (X := fun b => b = g) w (p := ⟨g, k * 8 + 7, none⟩) rfl (.bool true)).trans (Keeps.set (X := fun b => b = g) _ (p := ⟨g, i * 8 + 6, none⟩) rfl (.bool true)))
 clear h oR h1 h2 hgi hml
 have hkk : ¬ k * 8 + 7 = i * 8 + 6 := by omega
 have hkk' : ¬ i * 8 + 6 = k * 8 + 7 := by omega
 go_enter Tryz.func70, Tryz.ntmps70
 go_wp2_with fail
 exact ⟨rfl, _, results_none Tryz.results70 _ _ _, ⟨rfl, HF.out, HK.out, by rw [set_size13, set_size13]⟩⟩
end Go.Proofs.YtnhlfkffllbpiaaGreat
/- The touch of a write, of the program: whom it meets, what it marks; the search for a key among writes. Conditions: texts of at most 2^21 bytes, at most 2^21 reads and writes. -/

namespace Go.Proofs.YtnhlfkffllbpiaaGreat
open Go.RowKit
set_option maxRecDepth 100000
theorem cmp3_zero13 (x y : Nat) : cmp3 x y = 0 ↔ x = y := by
 unfold cmp3
 by_cases h1 : x < y
 · rw [if_pos h1]; omega
 · rw [if_neg h1]
   by_cases h2 : y < x
   · rw [if_pos h2]; omega
   · rw [if_neg h2]; omega
theorem cmpM_zero (a b : Im) : cmpM a b = 0 ↔ (okI a.K a.N a.F a.Z.length = true ∧ okI b.K b.N b.F b.Z.length = true ∧ a.K = b.K ∧ a.N = b.N ∧ frank a.F = frank b.F ∧ a.Z = b.Z) := by
 unfold cmpM cmpI
 by_cases h0 : okI a.K a.N a.F a.Z.length = false ∨ okI b.K b.N b.F b.Z.length = false
 · rw [if_pos h0]
   constructor
   · intro h; omega
   · rintro ⟨h1, h2, _⟩
     rcases h0 with q | q
     · rw [q] at h1; cases h1
     · rw [q] at h2; cases h2
 · rw [if_neg h0]
   have h1 : okI a.K a.N a.F a.Z.length = true := by
    cases q : okI a.K a.N a.F a.Z.length with
    | true => rfl
    | false => exact absurd (.inl q) h0
   have h2 : okI b.K b.N b.F b.Z.length = true := by
    cases q : okI b.K b.N b.F b.Z.length with
    | true => rfl
    | false => exact absurd (.inr q) h0
   by_cases hk : a.K = b.K
   · rw [if_neg (by simpa using hk)]
     by_cases hn : a.N = b.N
     · rw [if_neg (by simpa using hn)]
       by_cases hf : frank a.F = frank b.F
       · rw [if_neg (by rw [Ne, cmp3_zero13]; simpa using hf), txt_zero]
         exact ⟨fun h => ⟨h1, h2, hk, hn, hf, h⟩, fun h => h.2.2.2.2.2⟩
       · rw [if_pos (by rw [Ne, cmp3_zero13]; exact hf), cmp3_zero13]
         exact ⟨fun h => absurd h hf, fun h => h.2.2.2.2.1⟩
     · rw [if_pos hn]
       constructor
       · intro h; split at h <;> omega
       · intro h; exact absurd h.2.2.2.1 hn
   · rw [if_pos hk]
     constructor
     · intro h; split at h <;> omega
     · intro h; exact absurd h.2.2.1 hk
theorem cmpM_sym0 (a b : Im) : decide (cmpM a b = 0) = decide (cmpM b a = 0) := by
 rw [Bool.eq_iff_iff, decide_eq_true_iff, decide_eq_true_iff, cmpM_zero, cmpM_zero]
 constructor
 · rintro ⟨h1, h2, h3, h4, h5, h6⟩; exact ⟨h2, h1, h3.symm, h4.symm, h5.symm, h6.symm⟩
 · rintro ⟨h1, h2, h3, h4, h5, h6⟩; exact ⟨h2, h1, h3.symm, h4.symm, h5.symm, h6.symm⟩
set_option maxHeartbeats 3200000 in
theorem impl_write1 (K1 N1 : Int) (F1 : Nat) {p1 : Option Addr} {m1 : Nat} (d1 : Nat) (KX NX : Int) (FX : Nat) {ax : Option Addr} {m : Nat} (cx : Nat) {Z1 ZX : List Int} {w : World} (q1 : Reads w p1 m1 Z1) (qx : Reads w ax m ZX) (hf1 : F1 < 18446744073709551616) (hfx : FX < 18446744073709551616) (hz1 : m1 ≤ 2097152) (hzx : m ≤ 2097152) (B : Nat) (bx : BoxJ w B KX NX FX (.slice ax m cx)) :
 Calls Tryz.prog 64 #[.agg #[.int .i64 K1, .int .i64 N1, .float .f64 F1, .slice p1 m1 d1], .pointer (some ⟨B, 0, none⟩)] w fun e w' => e = .returned (.bool (decide (cmpM ⟨K1, N1, F1, Z1⟩ ⟨KX, NX, FX, ZX⟩ = 0))) ∧ Below w.heap.size w w' := by
 rw [cmpM_sym0]
 have HC := hid (show cmpM ⟨KX, NX, FX, ZX⟩ ⟨K1, N1, F1, Z1⟩ = cmpI KX NX FX m ZX K1 N1 F1 m1 Z1 by unfold cmpM; simp only [q1.len, qx.len])
 have hst := fun w a m => run_store Tryz.prog w a (.float .f64 F1) m rfl
 have hst3 := fun w a m => run_store Tryz.prog w a (.float .f64 FX) m rfl
 have hB := Below.alloc1 w (.cells #[.int .i64 K1, .int .i64 N1, .float .f64 F1, .slice p1 m1 d1] 33)
 have HQ1 := hid (q1.below hB (Nat.le_refl _))
 have HQX := hid (qx.below hB (Nat.le_refl _))
 have HB := hid hB
 obtain ⟨c0, c1, c2, c3⟩ := bx.below hB (Nat.le_refl _)
 clear hB q1 qx bx
 go_enter Tryz.func64, Tryz.ntmps64
 go_wp2_with fail
 clear c0 c1 c2 c3
 refine (impl_ItemCompare KX NX K1 N1 FX F1 cx d1 hfx hf1 HQX.out HQ1.out hzx hz1).mono ?_
 rintro e w1 ⟨rfl, b1⟩
 rw [← HC.out]
 obtain ⟨C, hC⟩ : ∃ C, cmpM ⟨KX, NX, FX, ZX⟩ ⟨K1, N1, F1, Z1⟩ = C := ⟨_, rfl⟩
 rw [hC]
 replace HB := hid (HB.out.trans (b1.mono HB.out.size))
 have HV := hid hC
 clear b1 hC
 by_cases h0 : C = 0
 · have hq : (C == 0) = true := by simpa using h0
   have HE := hid (decide_eq_true h0)
   clear h0
   go_wp2_with fail
   go_ret
   exact ⟨by rw [HV.out, HE.out]; rfl, HB.out⟩
 · have hq : (C == 0) = false := by simpa using h0
   have HE := hid (decide_eq_false h0)
   clear h0
   go_wp2_with fail
   go_ret
   exact ⟨by rw [HV.out, HE.out]; rfl, HB.out⟩
set_option maxHeartbeats 3200000 in
theorem index_has {a : Option Addr} {n : Nat} (c : Nat) {ws : List Im} (KX NX : Int) (FX : Nat) {ax : Option Addr} {m : Nat} (cx : Nat) {ZX : List Int} {w : World} (h : ReadsM w a ws) (hl : ws.length = n) (hn : n ≤ 2097152) (hs : ∀ i, (ws.getD i im0).Z.length ≤ 2097152) (qx : Reads w ax m ZX) (hfx : FX < 18446744073709551616) (hzx : m ≤ 2097152) (B : Nat) (bx : BoxJ w B KX NX FX (.slice ax m cx)) :
 Calls Tryz.prog 88 #[.slice a n c, .func (.func 64) #[] #[.pointer (some ⟨B, 0, none⟩)]] w fun e w' => ∃ r : Int, e = .returned (.int .i64 r) ∧ decide (0 ≤ r) = hasM ws ⟨KX, NX, FX, ZX⟩ ∧ Below w.heap.size w w' := by
 have HRM := hid h
 have HL := hid hl
 have HS := hid hs
 have HQX := hid qx
 have HBX := hid bx
 clear h hl hs qx bx
 go_enter Tryz.func88, Tryz.ntmps88
 go_wp2_with fail
 go_loopw [8] (fun i wr => ∃ k : Nat, k ≤ n ∧ i = .int .i64 k ∧ Hid (∀ i, i < k → decide (cmpM (ws.getD i im0) ⟨KX, NX, FX, ZX⟩ = 0) = false) ∧ Hid (Below w.heap.size w wr)) (fun i _ => n - (intOf i).toNat)
 case atStart => exact ⟨0, Nat.zero_le _, rfl, hid (fun i hi => by omega), hid (Below.refl _ _)⟩
 case round =>
  obtain ⟨k, hk, rfl, HNo, HW⟩ := hrel
  by_cases hlt : k < n
  · have hlt' : (k : Int) < (n : Int) := by omega
    have hk0 : (0 : Int) ≤ (k : Int) := by omega
    obtain ⟨b, off, p1, d1, rfl, bx, q1, _, _, hf1⟩ := HRM.out.at (k := k) (by have := HL.out; omega)
    have hz1 := HS.out k
    have HOne := hid (fun q => hasM_one (ws := ws) (x := ⟨KX, NX, FX, ZX⟩) (i := k) (by have := HL.out; omega) q)
    have HNx := hid (fun (q : decide (cmpM (ws.getD k im0) ⟨KX, NX, FX, ZX⟩ = 0) = false) i (hi : i < k + 1) => show decide (cmpM (ws.getD i im0) ⟨KX, NX, FX, ZX⟩ = 0) = false from by
     by_cases hc : i < k
     · exact HNo.out i hc
     · have : i = k := by omega
       subst this; exact q)
    generalize ws.getD k im0 = pp at *
    obtain ⟨K1, N1, F1, Z1⟩ := pp
    simp only at bx q1 hf1 hz1
    obtain ⟨m1, hm⟩ : ∃ m, Z1.length = m := ⟨_, rfl⟩
    rw [hm] at bx q1 hz1
    obtain ⟨x0, x1, x2, x3⟩ := bx.below HW.out (Nat.le_refl _)
    have Q1 := hid (q1.below HW.out (Nat.le_refl _))
    clear bx q1 hm
    go_wp2_with fail
    clear x0 x1 x2 x3
    refine (impl_write1 K1 N1 F1 d1 KX NX FX cx Q1.out (HQX.out.below HW.out (Nat.le_refl _)) hf1 hfx hz1 hzx B (HBX.out.below HW.out (Nat.le_refl _))).mono ?_
    rintro e w1 ⟨rfl, b1⟩
    have HW2 := hid (HW.out.trans (b1.mono HW.out.size))
    clear b1
    cases hin : decide (cmpM ⟨K1, N1, F1, Z1⟩ ⟨KX, NX, FX, ZX⟩ = 0) with
    | true =>
     have HT := hid (HOne.out hin)
     clear hin
     go_wp2_with fail
     go_ret
     exact ⟨_, rfl, by rw [HT.out]; exact decide_eq_true hk0, HW2.out⟩
    | false =>
     have HN2 := hid (HNx.out hin)
     clear hin
     go_wp2_with fail
     go_roundw
     case rel => exact ⟨k + 1, by omega, by go_num, HN2, HW2⟩
     case measure => simp [intOf]; omega
  · have hlt' : ¬ (k : Int) < (n : Int) := by omega
    have HE := hid (hasM_none (ws := ws) (x := ⟨KX, NX, FX, ZX⟩) (fun i hi => HNo.out i (by have := HL.out; omega)))
    go_wp2_with fail
    go_ret
    exact ⟨_, rfl, by rw [HE.out]; decide, HW.out⟩
set_option maxHeartbeats 1600000 in
theorem contains_has {a : Option Addr} {n : Nat} (c : Nat) {ws : List Im} (KX NX : Int) (FX : Nat) {ax : Option Addr} {m : Nat} (cx : Nat) {ZX : List Int} {w : World} (h : ReadsM w a ws) (hl : ws.length = n) (hn : n ≤ 2097152) (hs : ∀ i, (ws.getD i im0).Z.length ≤ 2097152) (qx : Reads w ax m ZX) (hfx : FX < 18446744073709551616) (hzx : m ≤ 2097152) (B : Nat) (bx : BoxJ w B KX NX FX (.slice ax m cx)) :
 Calls Tryz.prog 66 #[.slice a n c, .func (.func 64) #[] #[.pointer (some ⟨B, 0, none⟩)]] w fun e w' => e = .returned (.bool (hasM ws ⟨KX, NX, FX, ZX⟩)) ∧ Below w.heap.size w w' := by
 go_enter Tryz.func66, Tryz.ntmps66
 go_wp2_with fail
 refine (index_has c KX NX FX cx h hl hn hs qx hfx hzx B bx).mono ?_
 rintro e w1 ⟨r, rfl, hr, b⟩
 have HB := hid b
 have HR := hid hr
 clear b hr
 go_wp2_with fail
 go_ret
 exact ⟨by rw [← HR.out]; rfl, HB.out⟩
set_option maxHeartbeats 3200000 in
theorem impl_meetsW (xi be en : Int) (al inn ou : Bool) {rs : List (Im × Im)} {ws : List Im} {a1 : Option Addr} {n1 : Nat} (c1 : Nat) (a2 : Option Addr) (n2 c2 : Nat) (KX NX : Int) (FX : Nat) {ax : Option Addr} {m : Nat} (cx : Nat) {ZX : List Int} (B : Nat) {w : World} (h : ReadsM w a1 (fl2 rs)) (hl : rs.length = n1) (hn : n1 ≤ 2097152) (hs : ∀ i, ((fl2 rs).getD i im0).Z.length ≤ 2097152) (qx : Reads w ax m ZX) (hfx : FX < 18446744073709551616) (hzx : m ≤ 2097152) (bx : BoxJ w B KX NX FX (.slice ax m cx)) (hbd : bdT1 ⟨xi, be, en, al, rs, ws, inn, ou⟩) :
 Calls Tryz.prog 67 #[.agg #[.int .i64 xi, .int .i64 be, .int .i64 en, .bool al, .slice a1 n1 c1, .slice a2 n2 c2, .bool inn, .bool ou], .pointer (some ⟨B, 0, none⟩)] w fun e w' => e = .returned (.bool (hitR ⟨KX, NX, FX, ZX⟩ ⟨xi, be, en, al, rs, ws, inn, ou⟩)) ∧ Below w.heap.size w w' := by
 have hB := Below.alloc1 w (.cells #[.int .i64 xi, .int .i64 be, .int .i64 en, .bool al, .slice a1 n1 c1, .slice a2 n2 c2, .bool inn, .bool ou] 52)
 have hst3 := fun w a m => run_store Tryz.prog w a (.float .f64 FX) m rfl
 obtain ⟨y0, y1, y2, y3⟩ := bx.below hB (Nat.le_refl _)
 have HRM := hid (h.below hB (Nat.le_refl _))
 have HQX := hid (qx.below hB (Nat.le_refl _))
 have HB := hid hB
 have HL := hid hl
 have HS := hid hs
 have HM := hid qx.len
 clear hB bx h qx hl hs
 go_enter Tryz.func67, Tryz.ntmps67
 go_wp2_with fail
 clear y0 y1 y2 y3
 refine (impl_TrackReads ⟨xi, be, en, al, rs, ws, inn, ou⟩ ⟨KX, NX, FX, ZX⟩ c1 (.slice a2 n2 c2) cx HL.out HM.out HRM.out HQX.out hfx hzx HS.out hn hbd).mono ?_
 rintro e w1 ⟨rfl, b1⟩
 replace HB := hid (HB.out.trans (b1.mono HB.out.size))
 clear b1
 go_wp2_with fail
 go_ret
 exact ⟨rfl, HB.out⟩
set_option maxHeartbeats 1600000 in
theorem markW {g n c lo hi : Nat} {L : List Tk} {w : World} (h : OwnT w lo hi (.slice (some ⟨g, 0, none⟩) n c) L) (hl : L.length = n) {k i : Nat} (hk : k < n) (hi' : i < n) (hne : i ≠ k) :
 Calls Tryz.prog 69 #[.pointer (some ⟨g, k * 8, none⟩), .pointer (some ⟨g, i * 8, none⟩)] w fun e w' => e = .returned (.tuple #[]) ∧ OwnT w' lo hi (.slice (some ⟨g, 0, none⟩) n c) ((L.set k (oth (!false) (L.getD k tk0))).set i (oth false (L.getD i tk0))) ∧ Keeps (fun b => b = g) w w' ∧ w'.heap.size = w.heap.size := by
 have HO := hid h
 have HL := hid hl
 clear h hl
 go_enter Tryz.func69, Tryz.ntmps69
 go_wp2_with fail
 refine (impl_markEdge HO.out HL.out hi' hk (fun e => hne e.symm)).mono ?_
 rintro e w1 ⟨rfl, o1, k1, z1⟩
 have HF := hid (show OwnT w1 lo hi (.slice (some ⟨g, 0, none⟩) n c) ((L.set k (oth (!false) (L.getD k tk0))).set i (oth false (L.getD i tk0))) by rw [List.set_comm _ _ (fun e => hne e.symm)]; exact o1)
 have HK := hid k1
 have HZ := hid z1
 clear o1 k1 z1
 go_wp2_with fail
 exact ⟨rfl, _, results_none Tryz.results69 _ _ _, ⟨rfl, HF.out, HK.out, HZ.out⟩⟩
theorem size_tc : (Tryz.prog.info? 67).map (·.size) = some 2 := by kernel_rfl
set_option maxHeartbeats 3200000 in
theorem impl_touchOfWrite (KX NX : Int) (FX : Nat) {ax : Option Addr} {m : Nat} (cx : Nat) {w : World} :
 Calls Tryz.prog 32 #[.agg #[.int .i64 KX, .int .i64 NX, .float .f64 FX, .slice ax m cx]] w fun e w' => e = .returned (.agg #[.func (.func 67) #[] #[.pointer (some ⟨w.heap.size, 0, none⟩)], .func (.func 69) #[] #[]]) ∧ BoxJ w' w.heap.size KX NX FX (.slice ax m cx) ∧ Below w.heap.size w w' := by
 have hst := fun w a m => run_store Tryz.prog w a (.float .f64 FX) m rfl
 have hst3 := fun w' a m => run_store Tryz.prog w' a (.func (.func 67) #[] #[.pointer (some ⟨w.heap.size, 0, none⟩)]) m rfl
 have hst4 := fun w a m => run_store Tryz.prog w a (.func (.func 69) #[] #[]) m rfl
 have H1 := hid (fun o2 => (two_rows13 w (.cells #[.int .i64 KX, .int .i64 NX, .float .f64 FX, .slice ax m cx] 33) o2).1)
 have H2 := hid (fun o2 => (two_rows13 w (.cells #[.int .i64 KX, .int .i64 NX, .float .f64 FX, .slice ax m cx] 33) o2).2.1)
 have H3 := hid (fun o2 => two w (.cells #[.int .i64 KX, .int .i64 NX, .float .f64 FX, .slice ax m cx] 33) o2)
 go_enter Tryz.func32, Tryz.ntmps32
 go_wp2_with fail
 refine bodyPost_ret (results_cell_row Tryz.results32 _ _ (w.heap.size + 1) 67 #[.func (.func 67) #[] #[.pointer (some ⟨w.heap.size, 0, none⟩)], .func (.func 69) #[] #[]] (0, 0) _ rfl (H2.out _) Tryz.underlying67 rfl size_tc) rfl ⟨rfl, BoxJ.row (H1.out _), H3.out _⟩
end Go.Proofs.YtnhlfkffllbpiaaGreat
/- The contract of the program's (touch).across, of a write: whom it meets and what is marked being given. Conditions: at most 2^20 tracks. -/

namespace Go.Proofs.YtnhlfkffllbpiaaGreat
open Go.RowKit
set_option maxRecDepth 100000
set_option maxHeartbeats 12800000 in
theorem acrossW {g n c lo hi : Nat} {ts : List Tk} {k B : Nat} {t : Tk} {w : World} (hit : Tk → Bool)
 (h : OwnT w lo hi (.slice (some ⟨g, 0, none⟩) n c) (ts.set k t)) (hl : ts.length = n) (hk : k < n) (hn : n ≤ 1048576) (hhw : hi ≤ w.heap.size) (htb : t.begun = (ts.getD k tk0).begun) (hte : t.ended = (ts.getD k tk0).ended) (htx : t.xid = (ts.getD k tk0).xid) (hbd : bdTs ts)
 (hMeets : ∀ (xi be en : Int) (al inn ou : Bool) (rs : List (Im × Im)) (ws : List Im) (a1 : Option Addr) (n1 c1 : Nat) (a2 : Option Addr) (n2 c2 : Nat) (i : Nat) (W : World), i < n → ts.getD i tk0 = ⟨xi, be, en, al, rs, ws, inn, ou⟩ → Keeps (fun b => b = g) w W → ReadsM W a1 (fl2 rs) → rs.length = n1 → ReadsM W a2 ws → ws.length = n2 → Calls Tryz.prog 67 #[.agg #[.int .i64 xi, .int .i64 be, .int .i64 en, .bool al, .slice a1 n1 c1, .slice a2 n2 c2, .bool inn, .bool ou], .pointer (some ⟨B, 0, none⟩)] W fun e W' => e = .returned (.bool (hit ⟨xi, be, en, al, rs, ws, inn, ou⟩)) ∧ Below W.heap.size W W') :
 Calls Tryz.prog 33 #[.agg #[.func (.func 67) #[] #[.pointer (some ⟨B, 0, none⟩)], .func (.func 69) #[] #[]], .slice (some ⟨g, 0, none⟩) n c, .int .i64 k] w fun e w' => e = .returned (.int .i64 (lastC false (met hit (ts.getD k tk0) k ts) ts t)) ∧ OwnT w' lo hi (.slice (some ⟨g, 0, none⟩) n c) (pJ false (met hit (ts.getD k tk0) k ts) ts k t n) ∧ Keeps (fun b => b = g) w w' := by
 obtain ⟨M, hM⟩ : ∃ M, met hit (ts.getD k tk0) k ts = M := ⟨_, rfl⟩
 rw [hM]
 have HMt := hid hMeets
 have HM := hid (fun i => congrFun hM i)
 have HBe := hid (And.intro htb hte)
 have HTx := hid htx
 have HBD := hid hbd
 have HL := hid hl
 have hk0 : (0 : Int) ≤ (k : Int) := by omega
 have hkn : (k : Int) < (n : Int) := by omega
 have hgh := h.top g rfl
 have bA := Below.alloc1 w (.cells #[.func (.func 67) #[] #[.pointer (some ⟨B, 0, none⟩)], .func (.func 69) #[] #[]] 67)
 have HRA := hid (heap_alloc_new w (.cells #[.func (.func 67) #[] #[.pointer (some ⟨B, 0, none⟩)], .func (.func 69) #[] #[]] 67))
 have HZA := hid (alloc_size w (.cells #[.func (.func 67) #[] #[.pointer (some ⟨B, 0, none⟩)], .func (.func 69) #[] #[]] 67))
 have HO0 := hid (h.below bA hhw)
 have HK0 := hid (Keeps.of_below (X := fun b => b = g) bA)
 have HLC := hid (show lastC false M ts t = if ((tJ false M t n).inn && (tJ false M t n).out) = true then 2 else cdJ false M ts n by unfold lastC; rw [hl])
 clear hMeets hM htb hte hl h bA htx hbd
 go_enter Tryz.func33, Tryz.ntmps33
 go_wp2_with fail
 obtain ⟨w0, hw0⟩ : ∃ w0, w.alloc (.cells #[.func (.func 67) #[] #[.pointer (some ⟨B, 0, none⟩)], .func (.func 69) #[] #[]] 67) = w0 := ⟨_, rfl⟩
 rw [hw0] at HRA HZA HO0 HK0
 try rw [hw0]
 clear hw0
 go_loopw [7, 16] (fun vc vi wr => ∃ i : Nat, i ≤ n ∧ vi = .int .i64 i ∧ vc = .int .i64 (cdJ false M ts i) ∧ Hid (OwnT wr lo hi (.slice (some ⟨g, 0, none⟩) n c) (pJ false M ts k t i)) ∧ Hid (wr.heap[w.heap.size]? = some (.cells #[.func (.func 67) #[] #[.pointer (some ⟨B, 0, none⟩)], .func (.func 69) #[] #[]] 67)) ∧ Hid (Keeps (fun b => b = g) w wr) ∧ w.heap.size < wr.heap.size) (fun _ vi _ => n - (intOf vi).toNat)
 case atStart => exact ⟨0, Nat.zero_le _, rfl, rfl, HO0, HRA, HK0, by have := HZA.out; omega⟩
 case round =>
  obtain ⟨i, hin, rfl, rfl, HO, HR, HK, hsz⟩ := hrel
  clear HRA HZA HO0 HK0
  have HLen := hid (show (pJ false M ts k t i).length = n by rw [pJ_len]; exact HL.out)
  have hown := pJ_own false M ts (k := k) t i (by have := HL.out; omega)
  obtain ⟨g1, off1, u1, e1, u2, e2, eg, bo0, _, _, _, _⟩ := HO.out.rd.at (k := k) (by have := HLen.out; omega)
  obtain ⟨rfl, rfl⟩ : g = g1 ∧ 0 = off1 := by simpa using eg
  rw [Nat.zero_add, hown] at bo0
  have htr := tJ_rs false M t i
  have HTS := hid (tJ_succ false M t i)
  obtain ⟨tk, htk⟩ : ∃ tk, tJ false M t i = tk := ⟨_, rfl⟩
  have HTK := hid htk
  rw [htk] at bo0 htr
  rw [htk] at HTS
  obtain ⟨xk, bk, ek, ak, rk, wk, ik, ok⟩ := tk
  simp only at htr
  by_cases hlt : i < n
  · have hlt' : (i : Int) < (n : Int) := by omega
    have hi0 : (0 : Int) ≤ (i : Int) := by omega
    obtain ⟨g2, off2, a1, c1, a2, c2, eg2, bi0, r1, _, r2, _⟩ := HO.out.rd.at (k := i) (by have := HLen.out; omega)
    obtain ⟨rfl, rfl⟩ : g = g2 ∧ 0 = off2 := by simpa using eg2
    rw [Nat.zero_add] at bi0
    by_cases hik : i = k
    · -- the touching one itself
      subst hik
      have hMi : M i = false := by rw [← HM.out i]; unfold met; simp
      have HPn := hid (pJ_no false M ts i t (i := i) hMi)
      have HCn := hid (show cdJ false M ts (i + 1) = cdJ false M ts i by rw [cdJ_succ, hMi]; rfl)
      rw [hown, htk] at bi0
      have hq : ((i : Int) == (i : Int)) = true := by simp
      have hS : (fun W => (W.cell? ⟨w.heap.size, 0, none⟩ = some (.func (.func 67) #[] #[.pointer (some ⟨B, 0, none⟩)]) ∧ Box8 W g (i * 8) ⟨xk, bk, ek, ak, rk, wk, ik, ok⟩ (.slice u1 rk.length e1) (.slice u2 wk.length e2)) ∧ Box8 W g (i * 8) ⟨xk, bk, ek, ak, rk, wk, ik, ok⟩ (.slice u1 rk.length e1) (.slice u2 wk.length e2)) wr.drew := ⟨⟨cell_of_row _ _ 0 _ _ _ (show wr.drew.heap[w.heap.size]? = _ from HR.out), Box8.below bo0 ((Below.refl _ wr).drew) (Nat.le_refl _)⟩, Box8.below bo0 ((Below.refl _ wr).drew) (Nat.le_refl _)⟩
      generalize rk.length = l1 at hS
      generalize wk.length = l2 at hS
      have HS := hid hS
      have HKd := hid (HK.out.trans (Keeps.of_below (X := fun b => b = g) ((Below.refl _ wr).drew)))
      have HOd := hid (HO.out.agree (w' := wr.drew) (fun _ _ _ => rfl))
      have HRd := hid (show wr.drew.heap[w.heap.size]? = _ from HR.out)
      have hszd : w.heap.size < wr.drew.heap.size := hsz
      clear bo0 bi0 r1 r2 hS hown eg eg2 htr HO HR HK
      go_wp2
      refine region_K 99 (fun W => (W.cell? ⟨w.heap.size, 0, none⟩ = some (.func (.func 67) #[] #[.pointer (some ⟨B, 0, none⟩)]) ∧ Box8 W g (i * 8) ⟨xk, bk, ek, ak, rk, wk, ik, ok⟩ (.slice u1 l1 e1) (.slice u2 l2 e2)) ∧ Box8 W g (i * 8) ⟨xk, bk, ek, ak, rk, wk, ik, ok⟩ (.slice u1 l1 e1) (.slice u2 l2 e2)) (by kernel_rfl) ?_ (fun hHeld => ?_)
      · exact HS.out
      generalize wr.drew = v0 at *
      refine anyK_take2 (i := 0) (v := ?v0_1) rfl (by kernel_rfl) (by kernel_rfl) (by kernel_rfl) (by rfl) (fun _ _ _ h => h) (by rfl) hHeld ?hy0_1 (some 22) (by rfl) ?rest0_1
      case hy0_1 => (intro W hSw; obtain ⟨⟨x0, x1, x2, x3, x4, x5, x6, x7, x8⟩, x9, x10, x11, x12, x13, x14, x15, x16⟩ := hSw; go_simp; (try with_reducible rfl))
      try simp only [Act.put, List.setIfInBounds_toArray, List.set_cons_succ, List.set_cons_zero]
      refine anyK_take2 (i := 1) (v := ?v1_2) rfl (by kernel_rfl) (by kernel_rfl) (by kernel_rfl) (by rfl) (fun _ _ _ h => h) (by rfl) hHeld ?hy1_2 (some 23) (by rfl) ?rest1_2
      case hy1_2 => (intro W hSw; obtain ⟨⟨x0, x1, x2, x3, x4, x5, x6, x7, x8⟩, x9, x10, x11, x12, x13, x14, x15, x16⟩ := hSw; go_simp; (try with_reducible rfl))
      try simp only [Act.put, List.setIfInBounds_toArray, List.set_cons_succ, List.set_cons_zero]
      refine anyK_take2 (i := 2) (v := ?v2_3) rfl (by kernel_rfl) (by kernel_rfl) (by kernel_rfl) (by rfl) (fun _ _ _ h => h) (by rfl) hHeld ?hy2_3 (some 24) (by rfl) ?rest2_3
      case hy2_3 => (intro W hSw; obtain ⟨⟨x0, x1, x2, x3, x4, x5, x6, x7, x8⟩, x9, x10, x11, x12, x13, x14, x15, x16⟩ := hSw; go_simp; (try with_reducible rfl))
      try simp only [Act.put, List.setIfInBounds_toArray, List.set_cons_succ, List.set_cons_zero]
      refine anyK_take2 (i := 3) (v := ?v3_4) rfl (by kernel_rfl) (by kernel_rfl) (by kernel_rfl) (by rfl) (fun _ _ _ h => h) (by rfl) hHeld ?hy3_4 (some 25) (by rfl) ?rest3_4
      case hy3_4 => (intro W hSw; obtain ⟨⟨x0, x1, x2, x3, x4, x5, x6, x7, x8⟩, x9, x10, x11, x12, x13, x14, x15, x16⟩ := hSw; go_simp; (try with_reducible rfl))
      try simp only [Act.put, List.setIfInBounds_toArray, List.set_cons_succ, List.set_cons_zero]
      refine anyK_skip (i := 4) rfl (by kernel_rfl) (by kernel_rfl) (by kernel_rfl) (by kernel_rfl) (fun _ _ _ h => h) (by rfl) hHeld (some 26) (by rfl) ?_
      try simp only [Act.put, List.setIfInBounds_toArray, List.set_cons_succ, List.set_cons_zero]
      refine anyK_skip (i := 5) rfl (by kernel_rfl) (by kernel_rfl) (by kernel_rfl) (by kernel_rfl) (fun _ _ _ h => h) (by rfl) hHeld (some 27) (by rfl) ?_
      try simp only [Act.put, List.setIfInBounds_toArray, List.set_cons_succ, List.set_cons_zero]
      refine anyK_skip (i := 6) rfl (by kernel_rfl) (by kernel_rfl) (by kernel_rfl) (by kernel_rfl) (fun _ _ _ h => h) (by rfl) hHeld (some 28) (by rfl) ?_
      try simp only [Act.put, List.setIfInBounds_toArray, List.set_cons_succ, List.set_cons_zero]
      refine anyK_skip (i := 7) rfl (by kernel_rfl) (by kernel_rfl) (by kernel_rfl) (by kernel_rfl) (fun _ _ _ h => h) (by rfl) hHeld (some 29) (by rfl) ?_
      try simp only [Act.put, List.setIfInBounds_toArray, List.set_cons_succ, List.set_cons_zero]
      refine anyK_skip (i := 8) rfl (by kernel_rfl) (by kernel_rfl) (by kernel_rfl) (by kernel_rfl) (fun _ _ _ h => h) (by rfl) hHeld (some 30) (by rfl) ?_
      try simp only [Act.put, List.setIfInBounds_toArray, List.set_cons_succ, List.set_cons_zero]
      refine anyK_skip (i := 9) rfl (by kernel_rfl) (by kernel_rfl) (by kernel_rfl) (by kernel_rfl) (fun _ _ _ h => h) (by rfl) hHeld (some 31) (by rfl) ?_
      try simp only [Act.put, List.setIfInBounds_toArray, List.set_cons_succ, List.set_cons_zero]
      refine anyK_skip (i := 10) rfl (by kernel_rfl) (by kernel_rfl) (by kernel_rfl) (by kernel_rfl) (fun _ _ _ h => h) (by rfl) hHeld (some 32) (by rfl) ?_
      try simp only [Act.put, List.setIfInBounds_toArray, List.set_cons_succ, List.set_cons_zero]
      refine anyK_skip (i := 11) rfl (by kernel_rfl) (by kernel_rfl) (by kernel_rfl) (by kernel_rfl) (fun _ _ _ h => h) (by rfl) hHeld (some 33) (by rfl) ?_
      try simp only [Act.put, List.setIfInBounds_toArray, List.set_cons_succ, List.set_cons_zero]
      refine anyK_take2 (i := 12) (v := ?v12_5) rfl (by kernel_rfl) (by kernel_rfl) (by kernel_rfl) (by rfl) (fun _ _ _ h => h) (by rfl) hHeld ?hy12_5 (some 34) (by rfl) ?rest12_5
      case hy12_5 => (intro W hSw; obtain ⟨⟨x0, x1, x2, x3, x4, x5, x6, x7, x8⟩, x9, x10, x11, x12, x13, x14, x15, x16⟩ := hSw; go_simp; (try with_reducible rfl))
      try simp only [Act.put, List.setIfInBounds_toArray, List.set_cons_succ, List.set_cons_zero]
      refine anyK_take2 (i := 13) (v := ?v13_6) rfl (by kernel_rfl) (by kernel_rfl) (by kernel_rfl) (by rfl) (fun _ _ _ h => h) (by rfl) hHeld ?hy13_6 (some 35) (by rfl) ?rest13_6
      case hy13_6 => (intro W hSw; obtain ⟨⟨x0, x1, x2, x3, x4, x5, x6, x7, x8⟩, x9, x10, x11, x12, x13, x14, x15, x16⟩ := hSw; go_simp; (try with_reducible rfl))
      try simp only [Act.put, List.setIfInBounds_toArray, List.set_cons_succ, List.set_cons_zero]
      refine anyK_skip (i := 14) rfl (by kernel_rfl) (by kernel_rfl) (by kernel_rfl) (by kernel_rfl) (fun _ _ _ h => h) (by rfl) hHeld (some 36) (by rfl) ?_
      try simp only [Act.put, List.setIfInBounds_toArray, List.set_cons_succ, List.set_cons_zero]
      refine anyK_skip (i := 15) rfl (by kernel_rfl) (by kernel_rfl) (by kernel_rfl) (by kernel_rfl) (fun _ _ _ h => h) (by rfl) hHeld (some 37) (by rfl) ?_
      try simp only [Act.put, List.setIfInBounds_toArray, List.set_cons_succ, List.set_cons_zero]
      refine anyK_skip (i := 16) rfl (by kernel_rfl) (by kernel_rfl) (by kernel_rfl) (by kernel_rfl) (fun _ _ _ h => h) (by rfl) hHeld (some 38) (by rfl) ?_
      try simp only [Act.put, List.setIfInBounds_toArray, List.set_cons_succ, List.set_cons_zero]
      refine anyK_skip (i := 17) rfl (by kernel_rfl) (by kernel_rfl) (by kernel_rfl) (by kernel_rfl) (fun _ _ _ h => h) (by rfl) hHeld (some 39) (by rfl) ?_
      try simp only [Act.put, List.setIfInBounds_toArray, List.set_cons_succ, List.set_cons_zero]
      refine anyK_skip (i := 18) rfl (by kernel_rfl) (by kernel_rfl) (by kernel_rfl) (by kernel_rfl) (fun _ _ _ h => h) (by rfl) hHeld (some 40) (by rfl) ?_
      try simp only [Act.put, List.setIfInBounds_toArray, List.set_cons_succ, List.set_cons_zero]
      refine anyK_skip (i := 19) rfl (by kernel_rfl) (by kernel_rfl) (by kernel_rfl) (by kernel_rfl) (fun _ _ _ h => h) (by rfl) hHeld (some 41) (by rfl) ?_
      try simp only [Act.put, List.setIfInBounds_toArray, List.set_cons_succ, List.set_cons_zero]
      refine anyK_skip (i := 20) rfl (by kernel_rfl) (by kernel_rfl) (by kernel_rfl) (by kernel_rfl) (fun _ _ _ h => h) (by rfl) hHeld (some 42) (by rfl) ?_
      try simp only [Act.put, List.setIfInBounds_toArray, List.set_cons_succ, List.set_cons_zero]
      refine anyK_take2 (i := 21) (v := ?v21_7) rfl (by kernel_rfl) (by kernel_rfl) (by kernel_rfl) (by rfl) (fun _ _ _ h => h) (by rfl) hHeld ?hy21_7 (some 43) (by rfl) ?rest21_7
      case hy21_7 => (intro W hSw; obtain ⟨⟨x0, x1, x2, x3, x4, x5, x6, x7, x8⟩, x9, x10, x11, x12, x13, x14, x15, x16⟩ := hSw; go_simp; (try with_reducible rfl))
      try simp only [Act.put, List.setIfInBounds_toArray, List.set_cons_succ, List.set_cons_zero]
      refine anyK_done (by kernel_rfl) ?_ _
      clear hHeld
      go_wp2_with fail
      go_roundw
      case rel => exact ⟨i + 1, by omega, by go_num, by rw [HCn.out], by rw [HPn.out]; exact HOd, HRd, HKd, hszd⟩
      case measure => simp [intOf]; omega
    · have hti := pJ_oth false M ts t (k := k) (i := i) (by have := HL.out; omega) (by have := HL.out; omega) hik
      rw [hti] at bi0 r1 r2
      have hq : ((i : Int) == (k : Int)) = false := by simpa using (show ¬ (i : Int) = (k : Int) by omega)
      have HMi := hid (show M i = (concB (ts.getD k tk0) (ts.getD i tk0) && hit (ts.getD i tk0)) by rw [← HM.out i]; unfold met; rw [decide_eq_false hik]; rfl)
      have HPy := hid (fun hm : M i = true => pJ_yes false M ts t hik hm)
      have HPn := hid (fun hm : M i = false => pJ_no false M ts k t (i := i) hm)
      have HCs := hid (cdJ_succ false M ts i)
      have HDg := hid (dng_oth false (ts.getD i tk0))
      obtain ⟨ti, hti'⟩ : ∃ ti, ts.getD i tk0 = ti := ⟨_, rfl⟩
      have HTI := hid hti'
      rw [hti'] at bi0 r1 r2 HMi HCs HDg
      rw [hti'] at HPy
      obtain ⟨xi, be, en, al, rs, ws, inn, ou⟩ := ti
      simp only at r1 r2
      have hcb0 : concB (ts.getD k tk0) ⟨xi, be, en, al, rs, ws, inn, ou⟩ = concB ⟨xk, bk, ek, ak, rk, wk, ik, ok⟩ ⟨xi, be, en, al, rs, ws, inn, ou⟩ := (concB_of (by rw [← HBe.out.1]; exact htr.2.2.1) (by rw [← HBe.out.2]; exact htr.2.2.2.1)).symm
      rw [hcb0] at HMi
      obtain ⟨CB, hCB⟩ : ∃ CB, concB ⟨xk, bk, ek, ak, rk, wk, ik, ok⟩ ⟨xi, be, en, al, rs, ws, inn, ou⟩ = CB := ⟨_, rfl⟩
      rw [hCB] at HMi
      have HCb := hid hCB
      clear hcb0 hCB
      have HbO := hid (show bdT1 ⟨xk, bk, ek, ak, rk, wk, ik, ok⟩ by
       have q := HBD.out k
       unfold bdT1 at q ⊢
       simp only
       rw [htr.2.2.2.2.2, htr.2.2.1, htr.2.2.2.1, HBe.out.1, HBe.out.2, HTx.out]
       exact q)
      have HbK := hid (show bdT1 ⟨xi, be, en, al, rs, ws, inn, ou⟩ by rw [← hti']; exact HBD.out i)
      have HTi3 := hid (hti.trans hti')
      have hS : (fun W => (W.cell? ⟨w.heap.size, 0, none⟩ = some (.func (.func 67) #[] #[.pointer (some ⟨B, 0, none⟩)]) ∧ Box8 W g (k * 8) ⟨xk, bk, ek, ak, rk, wk, ik, ok⟩ (.slice u1 rk.length e1) (.slice u2 wk.length e2)) ∧ Box8 W g (i * 8) ⟨xi, be, en, al, rs, ws, inn, ou⟩ (.slice a1 rs.length c1) (.slice a2 ws.length c2)) wr.drew := ⟨⟨cell_of_row _ _ 0 _ _ _ (show wr.drew.heap[w.heap.size]? = _ from HR.out), Box8.below bo0 ((Below.refl _ wr).drew) (Nat.le_refl _)⟩, Box8.below bi0 ((Below.refl _ wr).drew) (Nat.le_refl _)⟩
      have HRd1 := hid (r1.below ((Below.refl _ wr).drew) (Nat.le_refl _))
      have HRd2 := hid (r2.below ((Below.refl _ wr).drew) (Nat.le_refl _))
      obtain ⟨n1, hn1⟩ : ∃ n1, rs.length = n1 := ⟨_, rfl⟩
      obtain ⟨n2, hn2⟩ : ∃ n2, ws.length = n2 := ⟨_, rfl⟩
      rw [hn1, hn2] at hS
      have HN := hid (And.intro hn1 hn2)
      generalize rk.length = l1 at hS
      generalize wk.length = l2 at hS
      have HS := hid hS
      have HKd := hid (HK.out.trans (Keeps.of_below (X := fun b => b = g) ((Below.refl _ wr).drew)))
      have HOd := hid (HO.out.agree (w' := wr.drew) (fun _ _ _ => rfl))
      have HRd := hid (show wr.drew.heap[w.heap.size]? = _ from HR.out)
      have hszd : w.heap.size < wr.drew.heap.size := hsz
      have hhd : hi ≤ wr.drew.heap.size := by have := HK.out.size; show hi ≤ wr.heap.size; omega
      clear bo0 bi0 r1 r2 hS hown eg eg2 htr HO HR HK hti hti' htk hn1 hn2 hsz
      go_wp2
      refine region_K 99 (fun W => (W.cell? ⟨w.heap.size, 0, none⟩ = some (.func (.func 67) #[] #[.pointer (some ⟨B, 0, none⟩)]) ∧ Box8 W g (k * 8) ⟨xk, bk, ek, ak, rk, wk, ik, ok⟩ (.slice u1 l1 e1) (.slice u2 l2 e2)) ∧ Box8 W g (i * 8) ⟨xi, be, en, al, rs, ws, inn, ou⟩ (.slice a1 n1 c1) (.slice a2 n2 c2)) (by kernel_rfl) ?_ (fun hHeld => ?_)
      · exact HS.out
      generalize wr.drew = v0 at *
      refine anyK_take2 (i := 0) (v := ?v0_8) rfl (by kernel_rfl) (by kernel_rfl) (by kernel_rfl) (by rfl) (fun _ _ _ h => h) (by rfl) hHeld ?hy0_8 (some 22) (by rfl) ?rest0_8
      case hy0_8 => (intro W hSw; obtain ⟨⟨x0, x1, x2, x3, x4, x5, x6, x7, x8⟩, x9, x10, x11, x12, x13, x14, x15, x16⟩ := hSw; go_simp; (try with_reducible rfl))
      try simp only [Act.put, List.setIfInBounds_toArray, List.set_cons_succ, List.set_cons_zero]
      refine anyK_take2 (i := 1) (v := ?v1_9) rfl (by kernel_rfl) (by kernel_rfl) (by kernel_rfl) (by rfl) (fun _ _ _ h => h) (by rfl) hHeld ?hy1_9 (some 23) (by rfl) ?rest1_9
      case hy1_9 => (intro W hSw; obtain ⟨⟨x0, x1, x2, x3, x4, x5, x6, x7, x8⟩, x9, x10, x11, x12, x13, x14, x15, x16⟩ := hSw; go_simp; (try with_reducible rfl))
      try simp only [Act.put, List.setIfInBounds_toArray, List.set_cons_succ, List.set_cons_zero]
      refine anyK_take2 (i := 2) (v := ?v2_10) rfl (by kernel_rfl) (by kernel_rfl) (by kernel_rfl) (by rfl) (fun _ _ _ h => h) (by rfl) hHeld ?hy2_10 (some 24) (by rfl) ?rest2_10
      case hy2_10 => (intro W hSw; obtain ⟨⟨x0, x1, x2, x3, x4, x5, x6, x7, x8⟩, x9, x10, x11, x12, x13, x14, x15, x16⟩ := hSw; go_simp; (try with_reducible rfl))
      try simp only [Act.put, List.setIfInBounds_toArray, List.set_cons_succ, List.set_cons_zero]
      refine anyK_take2 (i := 3) (v := ?v3_11) rfl (by kernel_rfl) (by kernel_rfl) (by kernel_rfl) (by rfl) (fun _ _ _ h => h) (by rfl) hHeld ?hy3_11 (some 25) (by rfl) ?rest3_11
      case hy3_11 => (intro W hSw; obtain ⟨⟨x0, x1, x2, x3, x4, x5, x6, x7, x8⟩, x9, x10, x11, x12, x13, x14, x15, x16⟩ := hSw; go_simp; (try with_reducible rfl))
      try simp only [Act.put, List.setIfInBounds_toArray, List.set_cons_succ, List.set_cons_zero]
      refine anyK_take2 (i := 4) (v := ?v4_12) rfl (by kernel_rfl) (by kernel_rfl) (by kernel_rfl) (by rfl) (fun _ _ _ h => h) (by rfl) hHeld ?hy4_12 (some 26) (by rfl) ?rest4_12
      case hy4_12 => (intro W hSw; obtain ⟨⟨x0, x1, x2, x3, x4, x5, x6, x7, x8⟩, x9, x10, x11, x12, x13, x14, x15, x16⟩ := hSw; go_simp; (try with_reducible rfl))
      try simp only [Act.put, List.setIfInBounds_toArray, List.set_cons_succ, List.set_cons_zero]
      refine anyK_take2 (i := 5) (v := ?v5_13) rfl (by kernel_rfl) (by kernel_rfl) (by kernel_rfl) (by rfl) (fun _ _ _ h => h) (by rfl) hHeld ?hy5_13 (some 27) (by rfl) ?rest5_13
      case hy5_13 => (intro W hSw; obtain ⟨⟨x0, x1, x2, x3, x4, x5, x6, x7, x8⟩, x9, x10, x11, x12, x13, x14, x15, x16⟩ := hSw; go_simp; (try with_reducible rfl))
      try simp only [Act.put, List.setIfInBounds_toArray, List.set_cons_succ, List.set_cons_zero]
      refine anyK_take2 (i := 6) (v := ?v6_14) rfl (by kernel_rfl) (by kernel_rfl) (by kernel_rfl) (by rfl) (fun _ _ _ h => h) (by rfl) hHeld ?hy6_14 (some 28) (by rfl) ?rest6_14
      case hy6_14 => (intro W hSw; obtain ⟨⟨x0, x1, x2, x3, x4, x5, x6, x7, x8⟩, x9, x10, x11, x12, x13, x14, x15, x16⟩ := hSw; go_simp; (try with_reducible rfl))
      try simp only [Act.put, List.setIfInBounds_toArray, List.set_cons_succ, List.set_cons_zero]
      refine anyK_take2 (i := 7) (v := ?v7_15) rfl (by kernel_rfl) (by kernel_rfl) (by kernel_rfl) (by rfl) (fun _ _ _ h => h) (by rfl) hHeld ?hy7_15 (some 29) (by rfl) ?rest7_15
      case hy7_15 => (intro W hSw; obtain ⟨⟨x0, x1, x2, x3, x4, x5, x6, x7, x8⟩, x9, x10, x11, x12, x13, x14, x15, x16⟩ := hSw; go_simp; (try with_reducible rfl))
      try simp only [Act.put, List.setIfInBounds_toArray, List.set_cons_succ, List.set_cons_zero]
      refine anyK_take2 (i := 8) (v := ?v8_16) rfl (by kernel_rfl) (by kernel_rfl) (by kernel_rfl) (by rfl) (fun _ _ _ h => h) (by rfl) hHeld ?hy8_16 (some 30) (by rfl) ?rest8_16
      case hy8_16 => (intro W hSw; obtain ⟨⟨x0, x1, x2, x3, x4, x5, x6, x7, x8⟩, x9, x10, x11, x12, x13, x14, x15, x16⟩ := hSw; go_simp; (try with_reducible rfl))
      try simp only [Act.put, List.setIfInBounds_toArray, List.set_cons_succ, List.set_cons_zero]
      refine anyK_take2 (i := 9) (v := ?v9_17) rfl (by kernel_rfl) (by kernel_rfl) (by kernel_rfl) (by rfl) (fun _ _ _ h => h) (by rfl) hHeld ?hy9_17 (some 31) (by rfl) ?rest9_17
      case hy9_17 => (intro W hSw; obtain ⟨⟨x0, x1, x2, x3, x4, x5, x6, x7, x8⟩, x9, x10, x11, x12, x13, x14, x15, x16⟩ := hSw; go_simp; (try with_reducible rfl))
      try simp only [Act.put, List.setIfInBounds_toArray, List.set_cons_succ, List.set_cons_zero]
      refine anyK_step (i := 10) (by kernel_rfl) rfl (fun KP hK => ?_)
      go_simp
      refine (impl_Concurrent ⟨xk, bk, ek, ak, rk, wk, ik, ok⟩ ⟨xi, be, en, al, rs, ws, inn, ou⟩ (.slice u1 l1 e1) (.slice u2 l2 e2) (.slice a1 n1 c1) (.slice a2 n2 c2) _ HbO.out HbK.out).mono ?_
      rintro e w1 ⟨rfl, b1⟩
      rw [HCb.out]
      have HS1 := hid (show (fun W => (W.cell? ⟨w.heap.size, 0, none⟩ = some (.func (.func 67) #[] #[.pointer (some ⟨B, 0, none⟩)]) ∧ Box8 W g (k * 8) ⟨xk, bk, ek, ak, rk, wk, ik, ok⟩ (.slice u1 l1 e1) (.slice u2 l2 e2)) ∧ Box8 W g (i * 8) ⟨xi, be, en, al, rs, ws, inn, ou⟩ (.slice a1 n1 c1) (.slice a2 n2 c2)) w1 from ⟨⟨(b1.cell (p := ⟨w.heap.size, 0, none⟩) hszd).trans HS.out.1.1, HS.out.1.2.below b1 (Nat.le_refl _)⟩, HS.out.2.below b1 (Nat.le_refl _)⟩)
      replace HRd1 := hid (HRd1.out.below b1 (Nat.le_refl _))
      replace HRd2 := hid (HRd2.out.below b1 (Nat.le_refl _))
      replace HKd := hid (HKd.out.trans (Keeps.of_below (X := fun b => b = g) b1))
      replace HOd := hid (HOd.out.below b1 hhd)
      replace HRd := hid ((b1.block w.heap.size hszd).trans HRd.out)
      have hsz1 : w.heap.size < w1.heap.size := Nat.lt_of_lt_of_le hszd b1.size
      have hh1 : hi ≤ w1.heap.size := Nat.le_trans hhd b1.size
      clear b1 hszd hhd
      go_wp2_with fail
      clear hHeld
      refine hK.out _ _ HS1.out (fun hHeld => ?_)
      clear hK KP
      try simp only [Act.put, List.setIfInBounds_toArray, List.set_cons_succ, List.set_cons_zero]
      cases CB with
      | false =>
       have hMf : M i = false := by rw [HMi.out]; rfl
       have HPe := hid (HPn.out hMf)
       have HCe := hid (show cdJ false M ts (i + 1) = cdJ false M ts i by rw [HCs.out, hMf]; rfl)
       clear hMf
       refine anyK_take2 (i := 11) (v := ?v11_18) rfl (by kernel_rfl) (by kernel_rfl) (by kernel_rfl) (by rfl) (fun _ _ _ h => h) (by rfl) hHeld ?hy11_18 (some 33) (by rfl) ?rest11_18
       case hy11_18 => (intro W hSw; obtain ⟨⟨x0, x1, x2, x3, x4, x5, x6, x7, x8⟩, x9, x10, x11, x12, x13, x14, x15, x16⟩ := hSw; go_simp; (try with_reducible rfl))
       try simp only [Act.put, List.setIfInBounds_toArray, List.set_cons_succ, List.set_cons_zero]
       refine anyK_take2 (i := 12) (v := ?v12_19) rfl (by kernel_rfl) (by kernel_rfl) (by kernel_rfl) (by rfl) (fun _ _ _ h => h) (by rfl) hHeld ?hy12_19 (some 34) (by rfl) ?rest12_19
       case hy12_19 => (intro W hSw; obtain ⟨⟨x0, x1, x2, x3, x4, x5, x6, x7, x8⟩, x9, x10, x11, x12, x13, x14, x15, x16⟩ := hSw; go_simp; (try with_reducible rfl))
       try simp only [Act.put, List.setIfInBounds_toArray, List.set_cons_succ, List.set_cons_zero]
       refine anyK_take2 (i := 13) (v := ?v13_20) rfl (by kernel_rfl) (by kernel_rfl) (by kernel_rfl) (by rfl) (fun _ _ _ h => h) (by rfl) hHeld ?hy13_20 (some 35) (by rfl) ?rest13_20
       case hy13_20 => (intro W hSw; obtain ⟨⟨x0, x1, x2, x3, x4, x5, x6, x7, x8⟩, x9, x10, x11, x12, x13, x14, x15, x16⟩ := hSw; go_simp; (try with_reducible rfl))
       try simp only [Act.put, List.setIfInBounds_toArray, List.set_cons_succ, List.set_cons_zero]
       refine anyK_skip (i := 14) rfl (by kernel_rfl) (by kernel_rfl) (by kernel_rfl) (by kernel_rfl) (fun _ _ _ h => h) (by rfl) hHeld (some 36) (by rfl) ?_
       try simp only [Act.put, List.setIfInBounds_toArray, List.set_cons_succ, List.set_cons_zero]
       refine anyK_skip (i := 15) rfl (by kernel_rfl) (by kernel_rfl) (by kernel_rfl) (by kernel_rfl) (fun _ _ _ h => h) (by rfl) hHeld (some 37) (by rfl) ?_
       try simp only [Act.put, List.setIfInBounds_toArray, List.set_cons_succ, List.set_cons_zero]
       refine anyK_skip (i := 16) rfl (by kernel_rfl) (by kernel_rfl) (by kernel_rfl) (by kernel_rfl) (fun _ _ _ h => h) (by rfl) hHeld (some 38) (by rfl) ?_
       try simp only [Act.put, List.setIfInBounds_toArray, List.set_cons_succ, List.set_cons_zero]
       refine anyK_skip (i := 17) rfl (by kernel_rfl) (by kernel_rfl) (by kernel_rfl) (by kernel_rfl) (fun _ _ _ h => h) (by rfl) hHeld (some 39) (by rfl) ?_
       try simp only [Act.put, List.setIfInBounds_toArray, List.set_cons_succ, List.set_cons_zero]
       refine anyK_skip (i := 18) rfl (by kernel_rfl) (by kernel_rfl) (by kernel_rfl) (by kernel_rfl) (fun _ _ _ h => h) (by rfl) hHeld (some 40) (by rfl) ?_
       try simp only [Act.put, List.setIfInBounds_toArray, List.set_cons_succ, List.set_cons_zero]
       refine anyK_skip (i := 19) rfl (by kernel_rfl) (by kernel_rfl) (by kernel_rfl) (by kernel_rfl) (fun _ _ _ h => h) (by rfl) hHeld (some 41) (by rfl) ?_
       try simp only [Act.put, List.setIfInBounds_toArray, List.set_cons_succ, List.set_cons_zero]
       refine anyK_skip (i := 20) rfl (by kernel_rfl) (by kernel_rfl) (by kernel_rfl) (by kernel_rfl) (fun _ _ _ h => h) (by rfl) hHeld (some 42) (by rfl) ?_
       try simp only [Act.put, List.setIfInBounds_toArray, List.set_cons_succ, List.set_cons_zero]
       refine anyK_take2 (i := 21) (v := ?v21_21) rfl (by kernel_rfl) (by kernel_rfl) (by kernel_rfl) (by rfl) (fun _ _ _ h => h) (by rfl) hHeld ?hy21_21 (some 43) (by rfl) ?rest21_21
       case hy21_21 => (intro W hSw; obtain ⟨⟨x0, x1, x2, x3, x4, x5, x6, x7, x8⟩, x9, x10, x11, x12, x13, x14, x15, x16⟩ := hSw; go_simp; (try with_reducible rfl))
       try simp only [Act.put, List.setIfInBounds_toArray, List.set_cons_succ, List.set_cons_zero]
       refine anyK_done (by kernel_rfl) ?_ _
       clear hHeld
       go_wp2_with fail
       go_roundw
       case rel => exact ⟨i + 1, by omega, by go_num, by rw [HCe.out], by rw [HPe.out]; exact HOd, HRd, HKd, hsz1⟩
       case measure => simp [intOf]; omega
      | true =>
       replace HMi := hid (show M i = hit ⟨xi, be, en, al, rs, ws, inn, ou⟩ by rw [HMi.out]; rfl)
       refine anyK_take2 (i := 11) (v := ?v11_22) rfl (by kernel_rfl) (by kernel_rfl) (by kernel_rfl) (by rfl) (fun _ _ _ h => h) (by rfl) hHeld ?hy11_22 (some 33) (by rfl) ?rest11_22
       case hy11_22 => (intro W hSw; obtain ⟨⟨x0, x1, x2, x3, x4, x5, x6, x7, x8⟩, x9, x10, x11, x12, x13, x14, x15, x16⟩ := hSw; go_simp; (try with_reducible rfl))
       try simp only [Act.put, List.setIfInBounds_toArray, List.set_cons_succ, List.set_cons_zero]
       refine anyK_take2 (i := 12) (v := ?v12_23) rfl (by kernel_rfl) (by kernel_rfl) (by kernel_rfl) (by rfl) (fun _ _ _ h => h) (by rfl) hHeld ?hy12_23 (some 34) (by rfl) ?rest12_23
       case hy12_23 => (intro W hSw; obtain ⟨⟨x0, x1, x2, x3, x4, x5, x6, x7, x8⟩, x9, x10, x11, x12, x13, x14, x15, x16⟩ := hSw; go_simp; (try with_reducible rfl))
       try simp only [Act.put, List.setIfInBounds_toArray, List.set_cons_succ, List.set_cons_zero]
       refine anyK_take2 (i := 13) (v := ?v13_24) rfl (by kernel_rfl) (by kernel_rfl) (by kernel_rfl) (by rfl) (fun _ _ _ h => h) (by rfl) hHeld ?hy13_24 (some 35) (by rfl) ?rest13_24
       case hy13_24 => (intro W hSw; obtain ⟨⟨x0, x1, x2, x3, x4, x5, x6, x7, x8⟩, x9, x10, x11, x12, x13, x14, x15, x16⟩ := hSw; go_simp; (try with_reducible rfl))
       try simp only [Act.put, List.setIfInBounds_toArray, List.set_cons_succ, List.set_cons_zero]
       refine anyK_take2 (i := 14) (v := ?v14_25) rfl (by kernel_rfl) (by kernel_rfl) (by kernel_rfl) (by rfl) (fun _ _ _ h => h) (by rfl) hHeld ?hy14_25 (some 36) (by rfl) ?rest14_25
       case hy14_25 => (intro W hSw; obtain ⟨⟨x0, x1, x2, x3, x4, x5, x6, x7, x8⟩, x9, x10, x11, x12, x13, x14, x15, x16⟩ := hSw; go_simp; (try with_reducible rfl))
       try simp only [Act.put, List.setIfInBounds_toArray, List.set_cons_succ, List.set_cons_zero]
       refine anyK_take2 (i := 15) (v := ?v15_26) rfl (by kernel_rfl) (by kernel_rfl) (by kernel_rfl) (by rfl) (fun _ _ _ h => h) (by rfl) hHeld ?hy15_26 (some 37) (by rfl) ?rest15_26
       case hy15_26 => (intro W hSw; obtain ⟨⟨x0, x1, x2, x3, x4, x5, x6, x7, x8⟩, x9, x10, x11, x12, x13, x14, x15, x16⟩ := hSw; go_simp; (try with_reducible rfl))
       try simp only [Act.put, List.setIfInBounds_toArray, List.set_cons_succ, List.set_cons_zero]
       refine anyK_take2 (i := 16) (v := ?v16_27) rfl (by kernel_rfl) (by kernel_rfl) (by kernel_rfl) (by rfl) (fun _ _ _ h => h) (by rfl) hHeld ?hy16_27 (some 38) (by rfl) ?rest16_27
       case hy16_27 => (intro W hSw; obtain ⟨⟨x0, x1, x2, x3, x4, x5, x6, x7, x8⟩, x9, x10, x11, x12, x13, x14, x15, x16⟩ := hSw; go_simp; (try with_reducible rfl))
       try simp only [Act.put, List.setIfInBounds_toArray, List.set_cons_succ, List.set_cons_zero]
       refine anyK_take2 (i := 17) (v := ?v17_28) rfl (by kernel_rfl) (by kernel_rfl) (by kernel_rfl) (by rfl) (fun _ _ _ h => h) (by rfl) hHeld ?hy17_28 (some 39) (by rfl) ?rest17_28
       case hy17_28 => (intro W hSw; obtain ⟨⟨x0, x1, x2, x3, x4, x5, x6, x7, x8⟩, x9, x10, x11, x12, x13, x14, x15, x16⟩ := hSw; go_simp; (try with_reducible rfl))
       try simp only [Act.put, List.setIfInBounds_toArray, List.set_cons_succ, List.set_cons_zero]
       refine anyK_take2 (i := 18) (v := ?v18_29) rfl (by kernel_rfl) (by kernel_rfl) (by kernel_rfl) (by rfl) (fun _ _ _ h => h) (by rfl) hHeld ?hy18_29 (some 40) (by rfl) ?rest18_29
       case hy18_29 => (intro W hSw; obtain ⟨⟨x0, x1, x2, x3, x4, x5, x6, x7, x8⟩, x9, x10, x11, x12, x13, x14, x15, x16⟩ := hSw; go_simp; (try with_reducible rfl))
       try simp only [Act.put, List.setIfInBounds_toArray, List.set_cons_succ, List.set_cons_zero]
       refine anyK_step (i := 19) (by kernel_rfl) rfl (fun KP hK => ?_)
       go_simp
       refine (HMt.out xi be en al inn ou rs ws a1 n1 c1 a2 n2 c2 i _ hlt HTI.out HKd.out HRd1.out HN.out.1 HRd2.out HN.out.2).mono ?_
       rintro e w2 ⟨rfl, b2⟩
       rw [← HMi.out]
       have HS2 := hid (show (fun W => (W.cell? ⟨w.heap.size, 0, none⟩ = some (.func (.func 67) #[] #[.pointer (some ⟨B, 0, none⟩)]) ∧ Box8 W g (k * 8) ⟨xk, bk, ek, ak, rk, wk, ik, ok⟩ (.slice u1 l1 e1) (.slice u2 l2 e2)) ∧ Box8 W g (i * 8) ⟨xi, be, en, al, rs, ws, inn, ou⟩ (.slice a1 n1 c1) (.slice a2 n2 c2)) w2 from ⟨⟨(b2.cell (p := ⟨w.heap.size, 0, none⟩) hsz1).trans HS1.out.1.1, HS1.out.1.2.below b2 (Nat.le_refl _)⟩, HS1.out.2.below b2 (Nat.le_refl _)⟩)
       replace HKd := hid (HKd.out.trans (Keeps.of_below (X := fun b => b = g) b2))
       replace HOd := hid (HOd.out.below b2 hh1)
       replace HRd := hid ((b2.block w.heap.size hsz1).trans HRd.out)
       have hsz2 : w.heap.size < w2.heap.size := Nat.lt_of_lt_of_le hsz1 b2.size
       have hh2 : hi ≤ w2.heap.size := Nat.le_trans hh1 b2.size
       clear b2 hsz1 hh1
       go_wp2_with fail
       clear hHeld
       refine hK.out _ _ HS2.out (fun hHeld => ?_)
       clear hK KP
       try simp only [Act.put, List.setIfInBounds_toArray, List.set_cons_succ, List.set_cons_zero]
       cases hmi : M i with
       | false =>
        have HPe := hid (HPn.out hmi)
        have HCe := hid (show cdJ false M ts (i + 1) = cdJ false M ts i by rw [HCs.out, hmi]; rfl)
        clear hmi
        refine anyK_take2 (i := 20) (v := ?v20_30) rfl (by kernel_rfl) (by kernel_rfl) (by kernel_rfl) (by rfl) (fun _ _ _ h => h) (by rfl) hHeld ?hy20_30 (some 42) (by rfl) ?rest20_30
        case hy20_30 => (intro W hSw; obtain ⟨⟨x0, x1, x2, x3, x4, x5, x6, x7, x8⟩, x9, x10, x11, x12, x13, x14, x15, x16⟩ := hSw; go_simp; (try with_reducible rfl))
        try simp only [Act.put, List.setIfInBounds_toArray, List.set_cons_succ, List.set_cons_zero]
        refine anyK_take2 (i := 21) (v := ?v21_31) rfl (by kernel_rfl) (by kernel_rfl) (by kernel_rfl) (by rfl) (fun _ _ _ h => h) (by rfl) hHeld ?hy21_31 (some 43) (by rfl) ?rest21_31
        case hy21_31 => (intro W hSw; obtain ⟨⟨x0, x1, x2, x3, x4, x5, x6, x7, x8⟩, x9, x10, x11, x12, x13, x14, x15, x16⟩ := hSw; go_simp; (try with_reducible rfl))
        try simp only [Act.put, List.setIfInBounds_toArray, List.set_cons_succ, List.set_cons_zero]
        refine anyK_done (by kernel_rfl) ?_ _
        clear hHeld
        go_wp2_with fail
        go_roundw
        case rel => exact ⟨i + 1, by omega, by go_num, by rw [HCe.out], by rw [HPe.out]; exact HOd, HRd, HKd, hsz2⟩
        case measure => simp [intOf]; omega
       | true =>
        have HPe := hid (HPy.out hmi)
        replace HCs := hid (show cdJ false M ts (i + 1) = if dng false ⟨xi, be, en, al, rs, ws, inn, ou⟩ = true then 2 else cdJ false M ts i by rw [HCs.out, hmi, Bool.true_and])
        clear hmi
        refine anyK_take2 (i := 20) (v := ?v20_32) rfl (by kernel_rfl) (by kernel_rfl) (by kernel_rfl) (by rfl) (fun _ _ _ h => h) (by rfl) hHeld ?hy20_32 (some 42) (by rfl) ?rest20_32
        case hy20_32 => (intro W hSw; obtain ⟨⟨x0, x1, x2, x3, x4, x5, x6, x7, x8⟩, x9, x10, x11, x12, x13, x14, x15, x16⟩ := hSw; go_simp; (try with_reducible rfl))
        try simp only [Act.put, List.setIfInBounds_toArray, List.set_cons_succ, List.set_cons_zero]
        refine anyK_take2 (i := 21) (v := ?v21_33) rfl (by kernel_rfl) (by kernel_rfl) (by kernel_rfl) (by rfl) (fun _ _ _ h => h) (by rfl) hHeld ?hy21_33 (some 43) (by rfl) ?rest21_33
        case hy21_33 => (intro W hSw; obtain ⟨⟨x0, x1, x2, x3, x4, x5, x6, x7, x8⟩, x9, x10, x11, x12, x13, x14, x15, x16⟩ := hSw; go_simp; (try with_reducible rfl))
        try simp only [Act.put, List.setIfInBounds_toArray, List.set_cons_succ, List.set_cons_zero]
        refine anyK_done (by kernel_rfl) ?_ _
        clear hHeld
        have kf : w2.cell? ⟨w.heap.size, 1, none⟩ = some (.func (.func 69) #[] #[]) := cell_of_row _ _ 1 _ _ _ HRd.out
        go_wp2_with fail
        clear kf
        refine (markW HOd.out HLen.out hk hlt hik).mono ?_
        rintro e w3 ⟨rfl, o3, k3, z3⟩
        have hok : (pJ false M ts k t i).getD k tk0 = ⟨xk, bk, ek, ak, rk, wk, ik, ok⟩ := by rw [pJ_own false M ts t i (by have := HL.out; omega), HTK.out]
        rw [hok, HTi3.out, ← HTK.out, ← HPe.out] at o3
        have hbi : (pJ false M ts k t (i + 1)).getD i tk0 = oth false ⟨xi, be, en, al, rs, ws, inn, ou⟩ := by rw [HPe.out, getD_set _ _ _ _ _ (by rw [List.length_set]; have := HLen.out; omega), if_pos rfl]
        have hl3 : (pJ false M ts k t (i + 1)).length = n := by rw [pJ_len]; exact HL.out
        obtain ⟨g3, off3, b1, f1, b2, f2, eg3, bx3, _, _, _, _⟩ := o3.rd.at (k := i) (by omega)
        obtain ⟨rfl, rfl⟩ : g = g3 ∧ 0 = off3 := by simpa using eg3
        rw [Nat.zero_add, hbi] at bx3
        have HO3 := hid o3
        have HK3 := hid (HKd.out.trans k3)
        have HR3 := hid ((k3.block w.heap.size hsz2 (by omega)).trans HRd.out)
        have hsz3 : w.heap.size < w3.heap.size := by omega
        have hh3 : hi ≤ w3.heap.size := by omega
        obtain ⟨y0, y1, y2, y3, y4, y5, y6, y7⟩ := bx3
        generalize (oth false ⟨xi, be, en, al, rs, ws, inn, ou⟩).rs.length = h1 at *
        generalize (oth false ⟨xi, be, en, al, rs, ws, inn, ou⟩).ws.length = h2 at *
        clear o3 k3 z3 hbi hl3 eg3 hok HOd HKd HRd HS2 HS1 HS
        generalize oth false ⟨xi, be, en, al, rs, ws, inn, ou⟩ = tO at *
        obtain ⟨xo, bo, eo, ao, ro, wo, io, oo⟩ := tO
        simp only at y0 y1 y2 y3 y4 y5 y6 y7 HDg
        go_wp2_with fail
        refine (impl_isActive ⟨xo, bo, eo, ao, ro, wo, io, oo⟩ (.slice b1 h1 f1) (.slice b2 h2 f2) _).mono ?_
        rintro e w4 ⟨rfl, b4⟩
        simp only
        have z0 := (b4.cell (p := ⟨g, i * 8, none⟩) (World.block_lt_of_cell? _ _ y0)).trans y0
        have z1 := (b4.cell (p := ⟨g, i * 8 + 1, none⟩) (World.block_lt_of_cell? _ _ y1)).trans y1
        have z2 := (b4.cell (p := ⟨g, i * 8 + 2, none⟩) (World.block_lt_of_cell? _ _ y2)).trans y2
        have z3 := (b4.cell (p := ⟨g, i * 8 + 3, none⟩) (World.block_lt_of_cell? _ _ y3)).trans y3
        have z4 := (b4.cell (p := ⟨g, i * 8 + 4, none⟩) (World.block_lt_of_cell? _ _ y4)).trans y4
        have z5 := (b4.cell (p := ⟨g, i * 8 + 5, none⟩) (World.block_lt_of_cell? _ _ y5)).trans y5
        have z6 := (b4.cell (p := ⟨g, i * 8 + 6, none⟩) (World.block_lt_of_cell? _ _ y6)).trans y6
        have z7 := (b4.cell (p := ⟨g, i * 8 + 7, none⟩) (World.block_lt_of_cell? _ _ y7)).trans y7
        replace HO3 := hid (HO3.out.below b4 hh3)
        replace HK3 := hid (HK3.out.trans (Keeps.of_below (X := fun b => b = g) b4))
        replace HR3 := hid ((b4.block w.heap.size hsz3).trans HR3.out)
        have hsz4 : w.heap.size < w4.heap.size := Nat.lt_of_lt_of_le hsz3 b4.size
        have hh4 : hi ≤ w4.heap.size := Nat.le_trans hh3 b4.size
        clear b4 y0 y1 y2 y3 y4 y5 y6 y7 hsz3 hh3
        cases hac : decide (eo = 0) with
        | true =>
         have HCe := hid (show cdJ false M ts (i + 1) = cdJ false M ts i by rw [HCs.out, HDg.out, hac]; rfl)
         clear hac
         go_wp2_with fail
         go_roundw
         case rel => exact ⟨i + 1, by omega, by go_num, by rw [HCe.out], HO3, HR3, HK3, hsz4⟩
         case measure => simp [intOf]; omega
        | false =>
         replace HCs := hid (show cdJ false M ts (i + 1) = if (io && oo) = true then 2 else cdJ false M ts i by rw [HCs.out, HDg.out, hac]; rfl)
         clear hac
         go_wp2_with fail
         clear z0 z1 z2 z3 z4 z5 z6 z7
         refine (impl_isBetween ⟨xo, bo, eo, ao, ro, wo, io, oo⟩ (.slice b1 h1 f1) (.slice b2 h2 f2) _).mono ?_
         rintro e w5 ⟨rfl, b5⟩
         simp only
         replace HO3 := hid (HO3.out.below b5 hh4)
         replace HK3 := hid (HK3.out.trans (Keeps.of_below (X := fun b => b = g) b5))
         replace HR3 := hid ((b5.block w.heap.size hsz4).trans HR3.out)
         have hsz5 : w.heap.size < w5.heap.size := Nat.lt_of_lt_of_le hsz4 b5.size
         clear b5
         cases hio : (io && oo) with
         | true =>
          have HCe := hid (show cdJ false M ts (i + 1) = 2 by rw [HCs.out, hio]; rfl)
          clear hio
          go_wp2_with fail
          go_roundw
          case rel => exact ⟨i + 1, by omega, by go_num, by rw [HCe.out], HO3, HR3, HK3, hsz5⟩
          case measure => simp [intOf]; omega
         | false =>
          have HCe := hid (show cdJ false M ts (i + 1) = cdJ false M ts i by rw [HCs.out, hio]; rfl)
          clear hio
          go_wp2_with fail
          go_roundw
          case rel => exact ⟨i + 1, by omega, by go_num, by rw [HCe.out], HO3, HR3, HK3, hsz5⟩
          case measure => simp [intOf]; omega
  · have hlt' : ¬ (i : Int) < (n : Int) := by omega
    obtain rfl : i = n := by omega
    have HLC2 := hid (show lastC false M ts t = if (ik && ok) = true then 2 else cdJ false M ts i by rw [HLC.out, htk])
    obtain ⟨y0, y1, y2, y3, y4, y5, y6, y7⟩ := bo0
    simp only at y0 y1 y2 y3 y4 y5 y6 y7
    generalize rk.length = l1 at *
    generalize wk.length = l2 at *
    generalize cdJ false M ts i = CD at *
    have hhd : hi ≤ wr.heap.size := by have := HK.out.size; omega
    clear hown eg htr htk
    go_wp2_with fail
    clear y0 y1 y2 y3 y4 y5 y6 y7
    refine (impl_isBetween ⟨xk, bk, ek, ak, rk, wk, ik, ok⟩ (.slice u1 l1 e1) (.slice u2 l2 e2) _).mono ?_
    rintro e w1 ⟨rfl, b1⟩
    simp only
    have HO1 := hid (HO.out.below b1 hhd)
    have HK1 := hid (HK.out.trans (Keeps.of_below (X := fun b => b = g) b1))
    clear b1
    cases hio : (ik && ok) with
    | true =>
     have HE := hid (show lastC false M ts t = 2 by rw [HLC2.out, hio]; rfl)
     clear hio
     go_wp2_with fail
     go_ret
     exact ⟨by rw [HE.out]; rfl, HO1.out, HK1.out⟩
    | false =>
     have HE := hid (show lastC false M ts t = CD by rw [HLC2.out, hio]; rfl)
     clear hio
     go_wp2_with fail
     go_ret
     exact ⟨by rw [HE.out]; rfl, HO1.out, HK1.out⟩
end Go.Proofs.YtnhlfkffllbpiaaGreat
/- A track's reads or writes replaced in a row of tracks of the call's own; an append that tells where it went. No statement of its own; no conditions. -/


namespace Go.Proofs.YtnhlfkffllbpiaaGreat
open Go.RowKit
set_option maxRecDepth 100000
section
variable {P : Program} {w : World}
theorem step_append_at {ops : Array Oper} {o : Oper} {a : Act} {K : Act → World → Prop} {Q : Exit → Act → World → Prop} {E : Prop} (hgd : o.guard = none) (s x : Operand) (t : TypeId)
 (ho : o.op = .call { callee := .builtin .append, args := #[s, x], argTypes := #[t, t] })
 (base : Nat) (e : TypeId) (i : TypeInfo) (z : Value) (size bytes : Nat) (ht : P.underlying t = some (.slice e)) (hi : P.info? e = some i) (hz : i.zero = some z)
 (hsize : i.size = size) (hby : i.bytes = bytes) (hzs : z.cells.size = size) (hsz : 0 < size)
 (v : Value) (n : Nat) (xs : List Value) (hs : a.eval s = v) (hown : w.ownsRow base e size v n xs)
 (ad : Addr) (m c : Nat) (news : List Value) (hx : a.eval x = .slice (some ad) m c) (hl : news.length = m * size) (hnews : ∀ j u, news[j]? = some u → w.cell? (ad.add j) = some u) (h1 : ∀ u ∈ news, u.oneCell' = true)
 (h63 : n + m ≤ maxLen) (hbytes : (n + m) * bytes ≤ 140737488355328) (hbase : base ≤ w.heap.size)
 (h : ∀ a' cap w', w'.ownsRow base e size (.slice a' (n + m) cap) (n + m) (xs ++ news) → w.grownBy w' v.ownBlock → ((Value.slice a' (n + m) cap).ownBlock = v.ownBlock ∨ (Value.slice a' (n + m) cap).ownBlock = some w.heap.size) → K (a.put o.dst (.slice a' (n + m) cap)) w') :
 if Region.wanted o (yielded ops a.tmps) = true then Oper.wp P o a w K Q else E := by
 have hw : Region.wanted o (yielded ops a.tmps) = true := by simp [Region.wanted, hgd]
 rw [if_pos hw]
 obtain ⟨v', w', hr, h2, h3, _, h5⟩ := run_append_own_at (P := P) w base t o.type e i z size bytes ht hi hz hsize hby hzs hsz v n xs hown ad m c news hl hnews h1 h63 hbytes hbase
 obtain ⟨a', c', rfl⟩ := own_sl h2
 unfold Oper.wp execOp
 simp only [ho, resolve, invoke, builtin, Sem.run_bind, Sem.run_pure, Result.andThen_ok, List.map_toArray, List.map_cons, List.map_nil, hs, hx, hr]
 exact h a' c' w' h2 h3 h5
end
theorem OwnX.push {t : TypeId} {s : Nat} {w w' : World} {lo hi n : Nat} {v v' : Value} {es fs : List Im} {xs ys : List Value} (h : OwnX t s w lo hi v n es xs) (hlo : lo ≤ hi) (hw : hi ≤ w.heap.size) (ht : (5 : TypeId) ≠ t) (o1 : Bands w hi w.heap.size ys (textsI fs)) (hs : fs.length * 4 = s) (he : ∀ i, (fs.getD i im0).F < 18446744073709551616)
 (o' : w'.ownsRow lo t s v' (n + 1) (cellsI es xs ++ cellsI fs ys)) (g : w.grownBy w' v.ownBlock) : OwnX t s w' lo w'.heap.size v' (n + 1) (es ++ fs) (xs ++ ys) := by
 have hxl : xs.length = es.length := by rw [h.txt.len, textsI_len]
 have B2 : Bands w lo w.heap.size (xs ++ ys) (textsI es ++ textsI fs) := h.txt.append o1 hlo hw
 have B3 := B2.beside g (fun i => owns_ne (B2.own i) h.row ht)
 refine ⟨?_, ?_, (fun g' hg' => (o'.lt g' hg').2), (fun i => ?_), ?_⟩
 · rw [cellsI_app _ _ _ _ hxl]; exact o'
 · rw [textsI_app]; exact B3.mono (Nat.le_refl _) g.size
 · rw [getD_app]
   split
   · exact h.fl i
   · exact he _
 · rw [List.length_append, Nat.add_mul, h.len, hs, Nat.add_mul, Nat.one_mul]
theorem BandsP.repl {w w1 : World} {lo hi hi1 : Nat} {ps : List (Tk × Mt)} (h : BandsP w lo hi ps) {k : Nat} (hk : k < ps.length) (hhi : hi ≤ hi1) {X : Nat → Prop} (K : Keeps X w w1) (hX : ∀ b, X b → blkT ps[k].2 b ∨ hi ≤ b) {p' : Tk × Mt} (own' : OwnT1 w1 lo hi1 p'.2 p'.1) (hb : ∀ b, blkT p'.2 b → blkT ps[k].2 b ∨ hi ≤ b) : BandsP w1 lo hi1 (ps.set k p') := by
 have hl : (ps.set k p').length = ps.length := List.length_set ..
 have ap := List.pairwise_iff_getElem.1 h.apart
 have far : ∀ i (hi' : i < ps.length), i ≠ k → ∀ b, blkT ps[i].2 b → ¬ (blkT ps[k].2 b ∨ hi ≤ b) := fun i hi' hne b hb' q => by
  rcases q with q | q
  · rcases Nat.lt_or_gt_of_ne hne with c | c
    · exact ap i k hi' hk c b hb' q
    · exact ap k i hk hi' c b q hb'
  · have := ((h.own _ (List.getElem_mem hi')).inr hb').2
    omega
 refine ⟨fun p hp => ?_, ?_⟩
 · obtain ⟨i, hi', rfl⟩ := List.getElem_of_mem hp
   rw [hl] at hi'
   rw [List.getElem_set]
   by_cases c : k = i
   · subst c
     rw [if_pos rfl]; exact own'
   · rw [if_neg c]
     exact ((h.own _ (List.getElem_mem hi')).keep K (fun b hb' x => far i hi' (fun e => c e.symm) b hb' (hX b x))).mono (Nat.le_refl _) hhi
 · rw [List.pairwise_iff_getElem]
   intro i j hi' hj hij b hb1 hb2
   rw [List.getElem_set] at hb1 hb2
   rw [hl] at hi' hj
   by_cases c : k = i
   · subst c
     rw [if_pos rfl] at hb1
     rw [if_neg (by omega)] at hb2
     exact far j hj (by omega) b hb2 (hb b hb1)
   · rw [if_neg c] at hb1
     by_cases d : k = j
     · subst d
       rw [if_pos rfl] at hb2
       exact far i hi' (by omega) b hb1 (hb b hb2)
     · rw [if_neg d] at hb2
       exact ap i j hi' hj hij b hb1 hb2
theorem cP_put {ps : List (Tk × Mt)} {k q : Nat} {u : Value} {p' : Tk × Mt} (hk : k < ps.length) (hq : q < 8) (hc : cellsT1 p'.1 p'.2 = (cellsT1 ps[k].1 ps[k].2).set q u) : (cP ps).set (k * 8 + q) u = cP (ps.set k p') := by
 have e1 : cP ps = cP (ps.take k) ++ (cellsT1 ps[k].1 ps[k].2 ++ cP (ps.drop (k + 1))) := by
  conv => lhs; rw [← List.take_append_drop k ps, List.drop_eq_getElem_cons hk, cP_app, cP_cons]
 have l1 : (cP (ps.take k)).length = k * 8 := by rw [cP_len, List.length_take]; omega
 have e2 : ps.set k p' = ps.take k ++ p' :: ps.drop (k + 1) := by rw [List.set_eq_take_append_cons_drop, if_pos hk]
 rw [e2, cP_app, cP_cons, hc, e1, List.set_append_right _ _ (by omega), l1, Nat.add_sub_cancel_left, List.set_append_left _ _ (by simp [cellsT1]; omega)]
theorem OwnT.mem {w : World} {lo hi g n c : Nat} {ps : List (Tk × Mt)} {p' : Tk × Mt} {k q : Nat} {u : Value} (hlen : ps.length = n) (hk : k < n) (hq : q < 8) (o : w.ownsRow lo 52 8 (.slice (some ⟨g, 0, none⟩) n c) n (cP ps)) (hB : BandsP w lo hi (ps.set k p')) (hc : ∀ (hk' : k < ps.length), cellsT1 p'.1 p'.2 = (cellsT1 ps[k].1 ps[k].2).set q u) (ht : g < hi) : OwnT (w.setCell ⟨g, k * 8 + q, none⟩ u) lo hi (.slice (some ⟨g, 0, none⟩) n c) ((ps.map (·.1)).set k p'.1) := by
 have hkp : k < ps.length := by omega
 have o2 := owns_set o (j := k * 8 + q) (by omega) u
 rw [cP_put hkp hq (hc hkp)] at o2
 have hK := Keeps.set (X := fun b => b = g) w (p := ⟨g, k * 8 + q, none⟩) rfl u
 have := (hB.off o hK).own_t (v := .slice (some ⟨g, 0, none⟩) n c) (by rw [List.length_set, hlen]; exact o2) (fun g' hg' => by
  obtain rfl : g = g' := by simpa [Value.ownBlock] using hg'
  exact ht)
 rw [List.map_set] at this
 exact this
theorem Keeps.wider {X Y : Nat → Prop} {a b c : World} (h : Keeps X a b) (k : Keeps Y b c) (hY : ∀ q, q < a.heap.size → Y q → X q) : Keeps X a c :=
 ⟨k.os.trans h.os, k.tape.trans h.tape, k.output.trans h.output, Nat.le_trans h.size k.size, fun i hi hx => (k.block i (Nat.lt_of_lt_of_le hi h.size) (fun y => hx (hY i hi y))).trans (h.block i hi hx)⟩
end Go.Proofs.YtnhlfkffllbpiaaGreat
/- The contract of the program's (Track).write. Conditions: texts of at most 2^21 bytes, at most 2^20 writes. -/



namespace Go.Proofs.YtnhlfkffllbpiaaGreat
open Go.RowKit
set_option maxRecDepth 100000
theorem wrT_has {t : Tk} {x : Im} (h : hasM t.ws x = true) : writeT t x = t := by
 unfold writeT
 rw [if_pos h]
theorem wrT_new {t : Tk} {x : Im} (h : hasM t.ws x = false) : writeT t x = ⟨t.xid, t.begun, t.ended, t.all, t.rs, t.ws ++ [x], t.inn, t.out⟩ := by
 unfold writeT
 rw [if_neg (by rw [h]; simp)]
theorem set_self13 {α : Type} (ts : List α) (k : Nat) (d : α) (h : k < ts.length) : ts.set k (ts.getD k d) = ts := by
 simp [List.getD, h]
set_option maxHeartbeats 12800000 in
theorem impl_write {g n c lo hi : Nat} {ts : List Tk} {k : Nat} (KX NX : Int) (FX : Nat) {ax : Option Addr} {m : Nat} (cx : Nat) {ZX : List Int} {w : World} (h : OwnT w lo hi (.slice (some ⟨g, 0, none⟩) n c) ts) (hl : ts.length = n) (hk : k < n) (hlo : lo ≤ hi) (hhw : hi ≤ w.heap.size) (hw2 : (ts.getD k tk0).ws.length ≤ 1048576) (hs : ∀ i, ((ts.getD k tk0).ws.getD i im0).Z.length ≤ 2097152) (qx : Reads w ax m ZX) (hfx : FX < 18446744073709551616) (hzx : m ≤ 2097152) :
 Calls Tryz.prog 31 #[.pointer (some ⟨g, k * 8, none⟩), .agg #[.int .i64 KX, .int .i64 NX, .float .f64 FX, .slice ax m cx]] w fun e w' => e = .returned (.tuple #[]) ∧ OwnT w' lo w'.heap.size (.slice (some ⟨g, 0, none⟩) n c) (ts.set k (writeT (ts.getD k tk0) ⟨KX, NX, FX, ZX⟩)) ∧ Keeps (fun b => lo ≤ b ∧ b < hi) w w' := by
 have hst := fun w a m => run_store Tryz.prog w a (.float .f64 FX) m rfl
 have bA := Below.alloc1 w (.cells #[.int .i64 KX, .int .i64 NX, .float .f64 FX, .slice ax m cx] 33)
 have hzA := alloc_size w (.cells #[.int .i64 KX, .int .i64 NX, .float .f64 FX, .slice ax m cx] 33)
 have hO := h.below bA hhw
 have hgr := h.top g rfl
 obtain ⟨ms, hml, oRw, _, _⟩ := hO.own
 rw [hl] at oRw
 have hgl := (oRw.lt g rfl).1
 obtain ⟨b', off', a1, c1, a2, c2, e', bx, _, _, rd2, _⟩ := hO.rd.at (k := k) (by omega)
 obtain ⟨rfl, rfl⟩ : g = b' ∧ 0 = off' := by simpa using e'
 rw [Nat.zero_add] at bx
 have z5 := bx.c5
 have HO := hid hO
 have HL := hid hl
 have HKA := hid (Keeps.of_below (X := fun b => lo ≤ b ∧ b < hi) bA)
 have HG := hid (And.intro hgl hgr)
 have HZA := hid hzA
 have HRd := hid rd2
 have HX := hid (BoxJ.row (heap_alloc_new w (.cells #[.int .i64 KX, .int .i64 NX, .float .f64 FX, .slice ax m cx] 33)))
 have HQ := hid (qx.below bA (Nat.le_refl _))
 have HQB := hid (And.intro qx.len qx.bd)
 have HHs := hid hs
 obtain ⟨n2, hn2⟩ : ∃ n2, (ts.getD k tk0).ws.length = n2 := ⟨_, rfl⟩
 rw [hn2] at z5 hw2
 have HN2 := hid hn2
 clear bA hzA hO hgr hml oRw hgl e' bx h hl rd2 qx hs hn2
 go_enter Tryz.func31, Tryz.ntmps31
 go_wp2_with fail
 refine (contains_has c2 KX NX FX cx HRd.out HN2.out (by omega) HHs.out HQ.out hfx hzx w.heap.size HX.out).mono ?_
 rintro e w0 ⟨rfl, b0⟩
 have z5' : w0.cell? ⟨g, k * 8 + 5, none⟩ = some (.slice a2 n2 c2) := (b0.cell (p := ⟨g, k * 8 + 5, none⟩) (World.block_lt_of_cell? _ _ z5)).trans z5
 replace HO := hid (HO.out.below b0 (by have := HZA.out; omega))
 replace HKA := hid (HKA.out.trans (Keeps.of_below (X := fun b => lo ≤ b ∧ b < hi) b0))
 replace HX := hid (HX.out.below b0 (Nat.le_refl _))
 replace HQ := hid (HQ.out.below b0 (Nat.le_refl _))
 replace HZA := hid (show w.heap.size + 1 ≤ w0.heap.size by have := HZA.out; have := b0.size; omega)
 clear b0 z5 HRd
 cases hh : hasM (ts.getD k tk0).ws ⟨KX, NX, FX, ZX⟩ with
 | true =>
  have HF := hid (show OwnT w0 lo w0.heap.size (.slice (some ⟨g, 0, none⟩) n c) (ts.set k (writeT (ts.getD k tk0) ⟨KX, NX, FX, ZX⟩)) by
   rw [wrT_has hh, set_self13 _ _ _ (by have := HL.out; omega)]
   exact HO.out.mono (Nat.le_refl _) (by have := HZA.out; omega))
  clear hh
  go_wp2_with fail
  exact ⟨rfl, _, results_none Tryz.results31 _ _ _, ⟨rfl, HF.out, HKA.out⟩⟩
 | false =>
  have HRT := hid (wrT_new (x := ⟨KX, NX, FX, ZX⟩) hh)
  have bD := (Below.refl w0.heap.size w0).drew
  have HS0 := hid (show (fun W => W.cell? ⟨g, k * 8 + 5, none⟩ = some (.slice a2 n2 c2) ∧ BoxJ W w.heap.size KX NX FX (.slice ax m cx)) w0.drew from ⟨z5', HX.out.below bD (Nat.le_refl _)⟩)
  have Q1 := hid (HQ.out.below bD (Nat.le_refl _))
  have HKd := hid (HKA.out.trans (Keeps.of_below (X := fun b => lo ≤ b ∧ b < hi) bD))
  have HOd := hid (HO.out.below bD (by have := HZA.out; omega))
  have HZd := hid (show w.heap.size + 1 ≤ w0.drew.heap.size from HZA.out)
  clear hh bD HO HKA HQ HX
  go_wp2
  clear z5'
  refine region_K 11 (fun W => W.cell? ⟨g, k * 8 + 5, none⟩ = some (.slice a2 n2 c2) ∧ BoxJ W w.heap.size KX NX FX (.slice ax m cx)) (by kernel_rfl) ?_ (fun hHeld => ?_)
  · exact HS0.out
  generalize w0.drew = v0 at *
  refine anyK_take (i := 0) (v := ?v0_1) rfl (by kernel_rfl) (by kernel_rfl) (by kernel_rfl) (by kernel_rfl) (fun _ _ _ h => h) (by rfl) hHeld ?hy0_1 (some 13) (by rfl) ?rest0_1
  case hy0_1 => (intro W hSw; obtain ⟨x0, x1, x2, x3, x4⟩ := hSw; go_simp; (try with_reducible rfl))
  try simp only [Act.put, List.setIfInBounds_toArray, List.set_cons_succ, List.set_cons_zero]
  refine anyK_take (i := 1) (v := ?v1_2) rfl (by kernel_rfl) (by kernel_rfl) (by kernel_rfl) (by kernel_rfl) (fun _ _ _ h => h) (by rfl) hHeld ?hy1_2 (some 14) (by rfl) ?rest1_2
  case hy1_2 => (intro W hSw; obtain ⟨x0, x1, x2, x3, x4⟩ := hSw; go_simp; (try with_reducible rfl))
  try simp only [Act.put, List.setIfInBounds_toArray, List.set_cons_succ, List.set_cons_zero]
  refine anyK_take (i := 2) (v := ?v2_3) rfl (by kernel_rfl) (by kernel_rfl) (by kernel_rfl) (by kernel_rfl) (fun _ _ _ h => h) (by rfl) hHeld ?hy2_3 (some 15) (by rfl) ?rest2_3
  case hy2_3 => (intro W hSw; obtain ⟨x0, x1, x2, x3, x4⟩ := hSw; go_simp; (try with_reducible rfl))
  try simp only [Act.put, List.setIfInBounds_toArray, List.set_cons_succ, List.set_cons_zero]
  refine anyK_take (i := 3) (v := ?v3_4) rfl (by kernel_rfl) (by kernel_rfl) (by kernel_rfl) (by kernel_rfl) (fun _ _ _ h => h) (by rfl) hHeld ?hy3_4 (some 16) (by rfl) ?rest3_4
  case hy3_4 => (intro W hSw; obtain ⟨x0, x1, x2, x3, x4⟩ := hSw; go_simp; (try with_reducible rfl))
  try simp only [Act.put, List.setIfInBounds_toArray, List.set_cons_succ, List.set_cons_zero]
  refine anyK_take (i := 4) (v := ?v4_5) rfl (by kernel_rfl) (by kernel_rfl) (by kernel_rfl) (by kernel_rfl) (fun _ _ _ h => h) (by rfl) hHeld ?hy4_5 (some 17) (by rfl) ?rest4_5
  case hy4_5 => (intro W hSw; obtain ⟨x0, x1, x2, x3, x4⟩ := hSw; go_simp; (try with_reducible rfl))
  try simp only [Act.put, List.setIfInBounds_toArray, List.set_cons_succ, List.set_cons_zero]
  refine anyK_take (i := 5) (v := ?v5_6) rfl (by kernel_rfl) (by kernel_rfl) (by kernel_rfl) (by kernel_rfl) (fun _ _ _ h => h) (by rfl) hHeld ?hy5_6 (some 18) (by rfl) ?rest5_6
  case hy5_6 => (intro W hSw; obtain ⟨x0, x1, x2, x3, x4⟩ := hSw; go_simp; (try with_reducible rfl))
  try simp only [Act.put, List.setIfInBounds_toArray, List.set_cons_succ, List.set_cons_zero]
  refine anyK_step (i := 6) (by kernel_rfl) rfl (fun KP hK => ?_)
  go_simp
  refine (impl_copiedItem KX NX FX cx Q1.out hzx).mono ?_
  rintro e w1 ⟨v, rfl, o1, b1⟩
  obtain ⟨pv, cv, rfl⟩ := own_sl o1
  have HS1 := hid (show (fun W => W.cell? ⟨g, k * 8 + 5, none⟩ = some (.slice a2 n2 c2) ∧ BoxJ W w.heap.size KX NX FX (.slice ax m cx)) w1 from ⟨(b1.cell (p := ⟨g, k * 8 + 5, none⟩) (World.block_lt_of_cell? _ _ HS0.out.1)).trans HS0.out.1, HS0.out.2.below b1 (Nat.le_refl _)⟩)
  have HO1 := hid (HOd.out.below b1 (by have := HZd.out; omega))
  have HK1 := hid (HKd.out.trans (Keeps.of_below (X := fun b => lo ≤ b ∧ b < hi) b1))
  have HBd := hid (show Bands w1 v0.heap.size w1.heap.size [.slice pv m cv] [ZX] from Bands.one (by rw [HQB.out.1]; exact o1) HQB.out.2 (Nat.le_refl _))
  have HZ1 := hid (And.intro HZd.out b1.size)
  clear o1 b1 HS0 HOd HKd
  go_wp2_with fail
  clear hHeld
  refine hK.out _ _ HS1.out (fun hHeld => ?_)
  clear hK KP
  try simp only [Act.put, List.setIfInBounds_toArray, List.set_cons_succ, List.set_cons_zero]
  refine anyK_step (i := 7) (by kernel_rfl) rfl (fun KP hK => ?_)
  go_simp
  have b2 := Below.alloc1 w1 (.cells #[.int .i64 KX, .int .i64 NX, .float .f64 FX, .slice pv m cv] 33)
  have HS2 := hid (show (fun W => W.cell? ⟨g, k * 8 + 5, none⟩ = some (.slice a2 n2 c2) ∧ BoxJ W w.heap.size KX NX FX (.slice ax m cx)) (w1.alloc (.cells #[.int .i64 KX, .int .i64 NX, .float .f64 FX, .slice pv m cv] 33)) from ⟨(b2.cell (p := ⟨g, k * 8 + 5, none⟩) (World.block_lt_of_cell? _ _ HS1.out.1)).trans HS1.out.1, HS1.out.2.below b2 (Nat.le_refl _)⟩)
  have HO2 := hid (HO1.out.below b2 (by have := HZ1.out; omega))
  have HK2 := hid (HK1.out.trans (Keeps.of_below (X := fun b => lo ≤ b ∧ b < hi) b2))
  have HBd2 := hid (HBd.out.agree (Agree.below b2 (Nat.le_refl _)))
  have HN2w := hid (heap_alloc_new w1 (.cells #[.int .i64 KX, .int .i64 NX, .float .f64 FX, .slice pv m cv] 33))
  have HZ2 := hid (show w.heap.size + 1 ≤ v0.heap.size ∧ v0.heap.size ≤ w1.heap.size ∧ (w1.alloc (.cells #[.int .i64 KX, .int .i64 NX, .float .f64 FX, .slice pv m cv] 33)).heap.size = w1.heap.size + 1 from ⟨HZ1.out.1, HZ1.out.2, alloc_size _ _⟩)
  clear b2 hHeld
  refine hK.out _ _ HS2.out (fun hHeld => ?_)
  clear hK KP
  try simp only [Act.put, List.setIfInBounds_toArray, List.set_cons_succ, List.set_cons_zero]
  obtain ⟨w2, hw2⟩ : ∃ w2, w1.alloc (.cells #[.int .i64 KX, .int .i64 NX, .float .f64 FX, .slice pv m cv] 33) = w2 := ⟨_, rfl⟩
  rw [hw2] at HS2 HO2 HK2 HBd2 HN2w HZ2 hHeld ⊢
  clear hw2 HS1 HO1 HK1 HBd HZ1
  obtain ⟨ps, hps, oR, hBP⟩ := HO2.out.pairs
  rw [HL.out] at oR
  have hlen : ps.length = n := by rw [← HL.out, ← hps, List.length_map]
  have hkp : k < ps.length := by omega
  have hp1 : ps[k].1 = ts.getD k tk0 := by rw [← hps]; simp [List.getD, hkp]
  have hown := hBP.own _ (List.getElem_mem hkp)
  rw [hp1] at hown
  have hrow := hown.wr.row
  rw [HN2.out] at hrow
  have hy : ps[k].2.z = .slice a2 n2 c2 := by
   have q1 := (oR.cellAt (k * 8 + 5) (by omega)).symm.trans HS2.out.1
   have q2 : (cP ps)[k * 8 + 5]? = some ps[k].2.z := by
    have e1 : cP ps = cP (ps.take k) ++ (cellsT1 ps[k].1 ps[k].2 ++ cP (ps.drop (k + 1))) := by
     conv => lhs; rw [← List.take_append_drop k ps, List.drop_eq_getElem_cons hkp, cP_app, cP_cons]
    have l1 : (cP (ps.take k)).length = k * 8 := by rw [cP_len, List.length_take]; omega
    rw [e1, List.getElem?_append_right (by omega), l1, Nat.add_sub_cancel_left, List.getElem?_append_left (by simp [cellsT1])]
    rfl
   rw [q1] at q2
   injection q2 with q2
   exact q2.symm
  rw [hy] at hrow
  have HRow := hid hrow
  obtain ⟨i0, hi0, hz0, hz1', hz2'⟩ := info_parts Tryz.infoIm
  clear hrow
  refine anyK_step (i := 8) (by kernel_rfl) rfl (fun KP hK => ?_)
  refine step_append_at rfl _ _ 50 rfl lo 33 i0 (.agg #[.int .i64 0, .int .i64 0, .float .f64 0, .slice none 0 0]) 4 48 Tryz.underlying50 hi0 hz0 hz1' hz2' rfl (by decide) _ n2 _ rfl HRow.out ⟨w1.heap.size, 0, none⟩ 1 1 [.int .i64 KX, .int .i64 NX, .float .f64 FX, .slice pv m cv] rfl rfl (World.news_of_block HN2w.out) ?g2 (by unfold maxLen; omega) (by omega) (by have := HZ2.out; omega) ?_
  case g2 => intro u hu; simp only [List.mem_cons, List.not_mem_nil, or_false] at hu; rcases hu with rfl | rfl | rfl | rfl <;> rfl
  intro a8 c8 w8 o8 g8 hat
  have hzz := HZ2.out
  have hrd := hown.wr
  rw [hy, HN2.out] at hrd
  have hX8 := OwnX.push hrd hlo (by omega) (by decide) (fs := [⟨KX, NX, FX, ZX⟩]) (ys := [.slice pv m cv]) (HBd2.out.mono (by omega) (by omega)) rfl (fun i => by
   cases i with
   | zero => exact hfx
   | succ i => simp [im0]) o8 g8
  have K8 : Keeps (fun b => (Value.slice a2 n2 c2).ownBlock = some b) w2 w8 := Keeps.grown g8 (fun b e => e)
  have hyb : ∀ b, (Value.slice a2 n2 c2).ownBlock = some b → blkT ps[k].2 b := fun b hb => .inr (.inl (by rw [hy]; exact hb))
  have hT8 : OwnT1 w8 lo w8.heap.size ⟨ps[k].2.y, ps[k].2.X, .slice a8 (n2 + 1) c8, ps[k].2.Y ++ [.slice pv m cv]⟩ ⟨(ts.getD k tk0).xid, (ts.getD k tk0).begun, (ts.getD k tk0).ended, (ts.getD k tk0).all, (ts.getD k tk0).rs, (ts.getD k tk0).ws ++ [⟨KX, NX, FX, ZX⟩], (ts.getD k tk0).inn, (ts.getD k tk0).out⟩ := by
   refine ⟨?_, ?_, fun b hb hc => ?_⟩
   · exact (hown.rd.keep K8 (fun b hb hx => hown.rw_apart hb (.inl (by rw [hy]; exact hx)))).mono (Nat.le_refl _) (by have := g8.size; omega)
   · simp only [List.length_append, List.length_singleton, HN2.out]
     exact hX8
   · obtain ⟨x, hx, hxb⟩ := hc
     rcases List.mem_append.1 hx with q | q
     · exact hown.apart b hb ⟨x, q, hxb⟩
     · have h1 := blkL_ge HBd2.out ⟨x, q, hxb⟩
       have h2 := hown.rd.inr (.inr hb)
       omega
  have hB8 := hBP.repl hkp (hi1 := w8.heap.size) (by have := g8.size; omega) K8 (fun b hb => .inl (hyb b hb)) (p' := (⟨(ts.getD k tk0).xid, (ts.getD k tk0).begun, (ts.getD k tk0).ended, (ts.getD k tk0).all, (ts.getD k tk0).rs, (ts.getD k tk0).ws ++ [⟨KX, NX, FX, ZX⟩], (ts.getD k tk0).inn, (ts.getD k tk0).out⟩, ⟨ps[k].2.y, ps[k].2.X, .slice a8 (n2 + 1) c8, ps[k].2.Y ++ [.slice pv m cv]⟩)) hT8 (fun b hb => by
   rcases hb with q | (q | ⟨x, hx, hxb⟩)
   · exact .inl (.inl q)
   · rcases hat with e | e
     · rw [e] at q; exact .inl (hyb b q)
     · rw [e] at q
       obtain rfl : w2.heap.size = b := by simpa using q
       exact .inr (by omega)
   · rcases List.mem_append.1 hx with q | q
     · exact .inl (.inr (.inr ⟨x, q, hxb⟩))
     · have h1 := blkL_ge HBd2.out ⟨x, q, hxb⟩
       exact .inr (by omega))
  have hgy : ∀ b, (Value.slice a2 n2 c2).ownBlock = some b → ¬ b = g := fun b hb e => by
   subst e
   exact hown.off oR (by decide) (by decide) (by decide) (hyb b hb) rfl
  have oR8 := owns_keep oR K8 (fun b hb hx => hgy b hx (by
   obtain rfl : g = b := by simpa [Value.ownBlock] using hb
   rfl))
  have hF := OwnT.mem (u := .slice a8 (n2 + 1) c8) (q := 5) hlen hk (by omega) oR8 hB8 (fun _ => by
   have e : cellsT1 ps[k].1 ps[k].2 = cellsT1 (ts.getD k tk0) ps[k].2 := by rw [hp1]
   rw [e]
   simp only [cellsT1]
   rfl) (by have := HG.out; have := g8.size; omega)
  rw [hps] at hF
  have HF := hid (show OwnT (w8.setCell ⟨g, k * 8 + 5, none⟩ (.slice a8 (n2 + 1) c8)) lo w8.heap.size (.slice (some ⟨g, 0, none⟩) n c) (ts.set k (writeT (ts.getD k tk0) ⟨KX, NX, FX, ZX⟩)) by rw [HRT.out]; exact hF)
  have hyr : ∀ b, (Value.slice a2 n2 c2).ownBlock = some b → lo ≤ b ∧ b < hi := fun b hb => hown.inr (hyb b hb)
  have HK8 := hid ((HK2.out.wider K8 (fun b _ hb => hyr b hb)).trans (Keeps.set (X := fun b => lo ≤ b ∧ b < hi) w8 (p := ⟨g, k * 8 + 5, none⟩) HG.out (.slice a8 (n2 + 1) c8)))
  have HS8 := hid (show (fun W => W.cell? ⟨g, k * 8 + 5, none⟩ = some (.slice a2 n2 c2) ∧ BoxJ W w.heap.size KX NX FX (.slice ax m cx)) w8 from ⟨(World.cell?_of_block (w := w2) (a := ⟨g, k * 8 + 5, none⟩) (K8.block g (by have := HG.out; omega) (fun x => hgy g x rfl))).trans HS2.out.1, by
   have e := K8.block w.heap.size (by omega) (fun x => by have := hyr _ x; omega)
   have q := HS2.out.2
   exact ⟨(World.cell?_of_block (w := w2) (a := ⟨w.heap.size, 0, none⟩) e).trans q.c0, (World.cell?_of_block (w := w2) (a := ⟨w.heap.size, 1, none⟩) e).trans q.c1, (World.cell?_of_block (w := w2) (a := ⟨w.heap.size, 2, none⟩) e).trans q.c2, (World.cell?_of_block (w := w2) (a := ⟨w.heap.size, 3, none⟩) e).trans q.c3⟩⟩)
  have HFr := hid (show w8.frozen? ⟨g, k * 8 + 5, none⟩ = false from oR8.frozenAt _)
  have HZs := hid (set_size13 w8 ⟨g, k * 8 + 5, none⟩ (.slice a8 (n2 + 1) c8))
  clear hzz hrd hX8 K8 hyb hT8 hB8 hgy oR8 hF hyr o8 g8 hat hps oR hBP hlen hown hy HRow hp1 hkp hHeld
  refine hK.out _ _ HS8.out (fun hHeld => ?_)
  clear hK KP
  try simp only [Act.put]
  try simp only [List.setIfInBounds_toArray]
  try simp only [List.set_cons_succ, List.set_cons_zero]
  refine anyK_step (i := 9) (by kernel_rfl) rfl (fun KP hK => ?_)
  go_simp
  clear hHeld
  refine hK.out _ _ HS8.out (fun hHeld => ?_)
  clear hK KP
  try simp only [Act.put]
  try simp only [List.setIfInBounds_toArray]
  try simp only [List.set_cons_succ, List.set_cons_zero]
  refine anyK_step (i := 10) (by kernel_rfl) rfl (fun KP hK => ?_)
  go_simp
  clear hHeld
  refine hK.out _ _ HS8.out (fun hHeld => ?_)
  clear hK KP
  try simp only [Act.put]
  try simp only [List.setIfInBounds_toArray]
  try simp only [List.set_cons_succ, List.set_cons_zero]
  have kc := HS8.out.1
  have kf := HFr.out
  refine anyK_last (by kernel_rfl) rfl (fun KP hK => ?_)
  go_simp
  refine hK.out _ _ ?_
  clear hK KP hHeld
  try simp only [Act.put]
  refine anyK_done (by kernel_rfl) ?_ _
  go_wp2_with fail
  exact ⟨rfl, _, results_none Tryz.results31 _ _ _, ⟨rfl, by rw [HZs.out]; exact HF.out, HK8.out⟩⟩
end Go.Proofs.YtnhlfkffllbpiaaGreat
/- The contract of the program's EdgeWrite. Conditions: at most 2^20 tracks, texts of at most 2^20 bytes together, that of the key at most 2^21. -/



namespace Go.Proofs.YtnhlfkffllbpiaaGreat
open Go.RowKit
set_option maxRecDepth 100000
set_option maxHeartbeats 12800000 in
theorem impl_EdgeWrite {a : Option Addr} {n : Nat} (c : Nat) {ts : List Tk} (KX NX : Int) (FX : Nat) {ax : Option Addr} {m : Nat} (cx : Nat) {ZX : List Int} {w : World} (h : ReadsT w a ts) (hl : ts.length = n) (hn : n ≤ 1048576) (hs : sumT ts ≤ 1048576) (hbd : bdTs ts) (x : Int) (qx : Reads w ax m ZX) (hfx : FX < 18446744073709551616) (hzx : m ≤ 2097152) :
 Calls Tryz.prog 9 #[.slice a n c, .int .i64 x, .agg #[.int .i64 KX, .int .i64 NX, .float .f64 FX, .slice ax m cx]] w fun e w' => ∃ v, e = .returned (.tuple #[v, .int .i64 (writeC ts x ⟨KX, NX, FX, ZX⟩)]) ∧ OwnT w' w.heap.size w'.heap.size v (writeS ts x ⟨KX, NX, FX, ZX⟩) ∧ Below w.heap.size w w' := by
 have hst := fun w a m => run_store Tryz.prog w a (.float .f64 FX) m rfl
 have bA := Below.alloc1 w (.cells #[.int .i64 KX, .int .i64 NX, .float .f64 FX, .slice ax m cx] 33)
 have HX := hid (BoxJ.row (heap_alloc_new w (.cells #[.int .i64 KX, .int .i64 NX, .float .f64 FX, .slice ax m cx] 33)))
 have HZ := hid (alloc_size w (.cells #[.int .i64 KX, .int .i64 NX, .float .f64 FX, .slice ax m cx] 33))
 have HRT := hid (h.below bA (Nat.le_refl _))
 have HQ := hid qx
 have HOm := hid (show okK KX NX FX m = okM ⟨KX, NX, FX, ZX⟩ by unfold okM; simp only [qx.len])
 have HB := hid bA
 have HL := hid hl
 have HSM := hid (smT_of hs)
 have HLN := hid (lnT_of hs)
 have HBD := hid hbd
 clear h hl hs hbd qx bA
 go_enter Tryz.func9, Tryz.ntmps9
 go_wp2_with fail
 refine (impl_activeAt c HRT.out HL.out hn HSM.out HBD.out x).mono ?_
 rintro e w1 ⟨rfl, b1⟩
 replace HRT := hid (HRT.out.below b1 (Nat.le_refl _))
 replace HX := hid (HX.out.below b1 (Nat.le_refl _))
 have HZ1 := hid (And.intro HZ.out b1.size)
 replace HB := hid (HB.out.trans (b1.mono HB.out.size))
 clear b1 HZ
 obtain ⟨v0, v1, v2, v3⟩ := HX.out
 rcases actP_cases ts x with ⟨h2, h3⟩ | ⟨k, hk, hok, hat⟩
 · have HE := hid (write_no (s := ⟨KX, NX, FX, ZX⟩) (.inr h3))
   obtain ⟨I, hI⟩ : ∃ I, (actP ts x).1 = I := ⟨_, rfl⟩
   rw [h2, hI]
   clear h2 h3 hI
   go_wp2_with fail
   go_ret2
   refine ⟨.slice none 0 0, ?_, ?_, HB.out⟩
   · rw [HE.out.2]; rfl
   · rw [HE.out.1]; exact OwnT.nil _ _ _
 · rw [hk]
   have HK0 := hid (And.intro hok hat)
   clear hk hok hat
   go_wp2_with fail
   clear v0 v1 v2 v3
   refine (impl_KeyOk KX NX FX ax m cx hfx hzx _).mono ?_
   rintro e w2 ⟨rfl, b2⟩
   rw [HOm.out]
   replace HRT := hid (HRT.out.below b2 (Nat.le_refl _))
   replace HX := hid (HX.out.below b2 (Nat.le_refl _))
   replace HB := hid (HB.out.trans (b2.mono HB.out.size))
   have HZ2 := hid (show w.heap.size + 1 ≤ w2.heap.size by have := HZ1.out; have := b2.size; omega)
   clear b2 HZ1
   cases hsp : okM ⟨KX, NX, FX, ZX⟩ with
   | false =>
    have HE := hid (write_no (ts := ts) (x := x) (s := ⟨KX, NX, FX, ZX⟩) (.inl hsp))
    clear hsp
    go_wp2_with fail
    go_ret2
    refine ⟨.slice none 0 0, ?_, ?_, HB.out⟩
    · rw [HE.out.2]; rfl
    · rw [HE.out.1]; exact OwnT.nil _ _ _
   | true =>
    have HE := hid (write_yes hsp HK0.out.1 HK0.out.2)
    obtain ⟨hkn, _, _⟩ := atT_some HK0.out.2
    have hkn' : k < n := by have := HL.out; omega
    have hk0 : (0 : Int) ≤ (k : Int) := by omega
    have hki : (k : Int) < (n : Int) := by omega
    clear hsp hkn
    go_wp2_with fail
    refine (impl_copiedTracks c HRT.out HL.out hn HSM.out HLN.out).mono ?_
    rintro e w3 ⟨v, rfl, o3, b3⟩
    obtain ⟨av, cv, rfl⟩ := o3.slice
    rw [HL.out] at o3 ⊢
    obtain ⟨g, rfl⟩ : ∃ g, av = some ⟨g, 0, none⟩ := by
     obtain ⟨ms, _, oR, _, _⟩ := o3.own
     rcases oR.2 with ⟨e, h0⟩ | ⟨g, cap, cur, e, _⟩
     · rw [HL.out] at h0; omega
     · cases e; exact ⟨g, rfl⟩
    have hgl : w2.heap.size ≤ g ∧ g < w3.heap.size := by
     obtain ⟨ms, _, oR, _, _⟩ := o3.own
     exact oR.lt g rfl
    have HO3 := hid o3
    have HB3 := hid (HB.out.trans (b3.mono HB.out.size))
    have HX3 := hid ((HX.out.below b3 (Nat.le_refl _)).below ((Below.refl _ w3).drew) (Nat.le_refl _))
    have HZ3 := hid (And.intro HZ2.out b3.size)
    have HGL := hid hgl
    have HQd := hid (HQ.out.below (HB3.out.trans (((Below.refl w3.heap.size w3).drew).mono HB3.out.size)) (Nat.le_refl _))
    have HOd := hid (HO3.out.agree (w' := w3.drew) (fun _ _ _ => rfl))
    have HBd := hid (HB3.out.trans (((Below.refl w3.heap.size w3).drew).mono HB3.out.size))
    have HZd := hid (show w3.drew.heap.size = w3.heap.size from rfl)
    clear o3 b3 hgl HRT HX HB HO3 HB3 HZ2
    go_wp2
    refine region_K 99 (fun W => BoxJ W w.heap.size KX NX FX (.slice ax m cx)) (by kernel_rfl) ?_ (fun hHeld => ?_)
    · exact HX3.out
    generalize w3.drew = v3 at *
    refine anyK_take2 (i := 0) (v := ?v0_1) rfl (by kernel_rfl) (by kernel_rfl) (by kernel_rfl) (by rfl) (fun _ _ _ h => h) (by rfl) hHeld ?hy0_1 (some 26) (by rfl) ?rest0_1
    case hy0_1 => (intro W hSw; obtain ⟨x0, x1, x2, x3⟩ := hSw; go_simp; (try with_reducible rfl))
    try simp only [Act.put, List.setIfInBounds_toArray, List.set_cons_succ, List.set_cons_zero]
    refine anyK_take2 (i := 1) (v := ?v1_2) rfl (by kernel_rfl) (by kernel_rfl) (by kernel_rfl) (by rfl) (fun _ _ _ h => h) (by rfl) hHeld ?hy1_2 (some 27) (by rfl) ?rest1_2
    case hy1_2 => (intro W hSw; obtain ⟨x0, x1, x2, x3⟩ := hSw; go_simp; (try with_reducible rfl))
    try simp only [Act.put, List.setIfInBounds_toArray, List.set_cons_succ, List.set_cons_zero]
    refine anyK_take2 (i := 2) (v := ?v2_3) rfl (by kernel_rfl) (by kernel_rfl) (by kernel_rfl) (by rfl) (fun _ _ _ h => h) (by rfl) hHeld ?hy2_3 (some 28) (by rfl) ?rest2_3
    case hy2_3 => (intro W hSw; obtain ⟨x0, x1, x2, x3⟩ := hSw; go_simp; (try with_reducible rfl))
    try simp only [Act.put, List.setIfInBounds_toArray, List.set_cons_succ, List.set_cons_zero]
    refine anyK_take2 (i := 3) (v := ?v3_4) rfl (by kernel_rfl) (by kernel_rfl) (by kernel_rfl) (by rfl) (fun _ _ _ h => h) (by rfl) hHeld ?hy3_4 (some 29) (by rfl) ?rest3_4
    case hy3_4 => (intro W hSw; obtain ⟨x0, x1, x2, x3⟩ := hSw; go_simp; (try with_reducible rfl))
    try simp only [Act.put, List.setIfInBounds_toArray, List.set_cons_succ, List.set_cons_zero]
    refine anyK_step (i := 4) (by kernel_rfl) rfl (fun KP hK => ?_)
    go_simp
    refine (impl_write (k := k) KX NX FX cx HOd.out HL.out hkn' HZ3.out.2 (by have := HZd.out; omega) (HLN.out k).2 (HSM.out k).2 HQd.out hfx hzx).mono ?_
    rintro e w4 ⟨rfl, o4, k4⟩
    have HO4 := hid o4
    have HB4 := hid (Keeps.below HBd.out k4 (fun b hb => by have := HZ3.out; omega) (by have := HZ3.out; have := HZd.out; omega))
    have HX4 := hid (show (fun W => BoxJ W w.heap.size KX NX FX (.slice ax m cx)) w4 from by
     have e := k4.block w.heap.size (by have := HZ3.out; have := HZd.out; omega) (fun x => by have := HZ3.out; omega)
     have q := HX3.out
     exact ⟨(World.cell?_of_block (w := v3) (a := ⟨w.heap.size, 0, none⟩) e).trans q.c0, (World.cell?_of_block (w := v3) (a := ⟨w.heap.size, 1, none⟩) e).trans q.c1, (World.cell?_of_block (w := v3) (a := ⟨w.heap.size, 2, none⟩) e).trans q.c2, (World.cell?_of_block (w := v3) (a := ⟨w.heap.size, 3, none⟩) e).trans q.c3⟩)
    have HZ4 := hid (show w.heap.size + 1 ≤ w2.heap.size ∧ w2.heap.size ≤ w4.heap.size ∧ g < w4.heap.size by have := HZ3.out; have := HZd.out; have := k4.size; have := HGL.out; omega)
    clear o4 k4 HX3 HOd HBd HZd HZ3
    go_wp2_with fail
    clear hHeld
    refine hK.out _ _ HX4.out (fun hHeld => ?_)
    clear hK KP
    try simp only [Act.put]
    try simp only [List.setIfInBounds_toArray]
    try simp only [List.set_cons_succ, List.set_cons_zero]
    refine anyK_done (by kernel_rfl) ?_ _
    clear hHeld
    obtain ⟨b', off', a1, c1, a2, c2, e', bx, _, _, _, _⟩ := HO4.out.rd.at (k := k) (by rw [List.length_set, HL.out]; exact hkn')
    obtain ⟨rfl, rfl⟩ : g = b' ∧ 0 = off' := by simpa using e'
    rw [Nat.zero_add] at bx
    have z5 := bx.c5
    rw [getD_set _ _ _ _ _ (by have := HL.out; omega), if_pos rfl] at z5
    obtain ⟨l2, hl2⟩ : ∃ l2, (writeT (ts.getD k tk0) ⟨KX, NX, FX, ZX⟩).ws.length = l2 := ⟨_, rfl⟩
    rw [hl2] at z5
    have HWk := hid (show wrOk ts k ⟨KX, NX, FX, ZX⟩ = decide (l2 ≤ 200) by unfold wrOk; rw [hl2])
    clear bx e' hl2
    obtain ⟨v0, v1, v2, v3⟩ := HX4.out
    by_cases hgt : 200 < l2
    · have hgt' : (200 : Int) < (l2 : Int) := by omega
      have hwf : wrOk ts k ⟨KX, NX, FX, ZX⟩ = false := by rw [HWk.out]; simpa using hgt
      have HE1 := hid (show writeS ts x ⟨KX, NX, FX, ZX⟩ = [] by rw [HE.out.1, hwf]; rfl)
      have HE2 := hid (show writeC ts x ⟨KX, NX, FX, ZX⟩ = 1 by rw [HE.out.2, hwf]; rfl)
      clear hwf
      go_wp2_with fail
      go_ret2
      refine ⟨.slice none 0 0, ?_, ?_, HB4.out⟩
      · rw [HE2.out]; rfl
      · rw [HE1.out]; exact OwnT.nil _ _ _
    have hgt' : ¬ (200 : Int) < (l2 : Int) := by omega
    have hwt : wrOk ts k ⟨KX, NX, FX, ZX⟩ = true := by rw [HWk.out]; simpa using hgt
    replace HE := hid (show writeS ts x ⟨KX, NX, FX, ZX⟩ = pJ false (met (hitR ⟨KX, NX, FX, ZX⟩) (ts.getD k tk0) k ts) ts k (writeT (ts.getD k tk0) ⟨KX, NX, FX, ZX⟩) ts.length ∧ writeC ts x ⟨KX, NX, FX, ZX⟩ = lastC false (met (hitR ⟨KX, NX, FX, ZX⟩) (ts.getD k tk0) k ts) ts (writeT (ts.getD k tk0) ⟨KX, NX, FX, ZX⟩) by rw [HE.out.1, HE.out.2, hwt]; exact ⟨rfl, rfl⟩)
    clear hwt HWk
    go_wp2_with fail
    clear v0 v1 v2 v3 z5
    refine (impl_touchOfWrite KX NX FX cx).mono ?_
    rintro e w5 ⟨rfl, bx5, b5⟩
    have HO5 := hid (HO4.out.below b5 (Nat.le_refl _))
    have HB5 := hid (HB4.out.trans (b5.mono HB4.out.size))
    have HX5 := hid bx5
    have HZ5 := hid (show w.heap.size + 1 ≤ w2.heap.size ∧ w2.heap.size ≤ w4.heap.size ∧ g < w4.heap.size ∧ w4.heap.size ≤ w5.heap.size by have := HZ4.out; have := b5.size; omega)
    clear bx5 b5 HO4 HB4 HX4 HZ4
    go_wp2_with fail
    have HRB := hid (writeT_be (ts.getD k tk0) ⟨KX, NX, FX, ZX⟩)
    have HRX := hid (show (writeT (ts.getD k tk0) ⟨KX, NX, FX, ZX⟩).xid = (ts.getD k tk0).xid by unfold writeT; split <;> rfl)
    refine (acrossW (B := w4.heap.size) (hitR ⟨KX, NX, FX, ZX⟩) HO5.out HL.out hkn' hn HZ5.out.2.2.2 HRB.out.1 HRB.out.2.1 HRX.out HBD.out ?_).mono ?_
    · intro xi be en al inn ou rs ws a1 n1 c1 a2 n2 c2 i W hi hti kW rd1 hl1 rd2 hl2
      have bW : Below w.heap.size w W := Keeps.below HB5.out kW (fun b hb => by subst hb; have := HGL.out; have := HZ5.out; omega) HB5.out.size
      have hsm := HSM.out i
      have hln := HLN.out i
      have hbi := HBD.out i
      rw [hti] at hsm hln hbi
      have e := kW.block w4.heap.size (World.block_lt_of_cell? _ _ HX5.out.c0) (by have := HZ5.out; omega)
      have q := HX5.out
      exact impl_meetsW xi be en al inn ou (ws := ws) c1 a2 n2 c2 KX NX FX cx w4.heap.size rd1 hl1 (by have := hln.1; simp only at this; omega) hsm.1 (HQ.out.below bW (Nat.le_refl _)) hfx hzx ⟨(World.cell?_of_block (w := w5) (a := ⟨w4.heap.size, 0, none⟩) e).trans q.c0, (World.cell?_of_block (w := w5) (a := ⟨w4.heap.size, 1, none⟩) e).trans q.c1, (World.cell?_of_block (w := w5) (a := ⟨w4.heap.size, 2, none⟩) e).trans q.c2, (World.cell?_of_block (w := w5) (a := ⟨w4.heap.size, 3, none⟩) e).trans q.c3⟩ hbi
    rintro e w6 ⟨rfl, o6, k6⟩
    have HO6 := hid (o6.mono (lo' := w.heap.size) (hi' := w6.heap.size) (by have := HZ5.out; omega) (by have := HZ5.out; have := k6.size; omega))
    have HB6 := hid (Keeps.below HB5.out k6 (fun b hb => by subst hb; have := HGL.out; have := HZ5.out; omega) HB5.out.size)
    have HEc := hid (HE.out.2)
    have HEs := hid (show writeS ts x ⟨KX, NX, FX, ZX⟩ = pJ false (met (hitR ⟨KX, NX, FX, ZX⟩) (ts.getD k tk0) k ts) ts k (writeT (ts.getD k tk0) ⟨KX, NX, FX, ZX⟩) n by rw [HE.out.1, HL.out])
    obtain ⟨C, hC⟩ : ∃ C, lastC false (met (hitR ⟨KX, NX, FX, ZX⟩) (ts.getD k tk0) k ts) ts (writeT (ts.getD k tk0) ⟨KX, NX, FX, ZX⟩) = C := ⟨_, rfl⟩
    rw [hC] at HEc ⊢
    clear o6 k6 hC HRB HRX
    go_wp2_with fail
    go_ret2
    refine ⟨.slice (some ⟨g, 0, none⟩) n cv, ?_, ?_, HB6.out⟩
    · rw [HEc.out]; rfl
    · rw [HEs.out]; exact HO6.out
end Go.Proofs.YtnhlfkffllbpiaaGreat
/- Rows of tracks that are gone through by the specification's EdgeRead and EdgeWrite, with the places of their memory. No statement of its own; no conditions. -/

namespace Go.Proofs.YtnhlfkffllbpiaaGreat
open Go.RowKit
set_option maxRecDepth 100000
def pm0 : Tk × Mt := (tk0, mt0)
def qJ (r : Bool) (M : Nat → Bool) (ps : List (Tk × Mt)) : Nat → List (Tk × Mt)
 | 0 => ps
 | i + 1 => if M i = true then (qJ r M ps i).set i (oth r (ps.getD i pm0).1, (ps.getD i pm0).2) else qJ r M ps i
theorem qJ_yes (r : Bool) (M : Nat → Bool) (ps : List (Tk × Mt)) {i : Nat} (h : M i = true) : qJ r M ps (i + 1) = (qJ r M ps i).set i (oth r (ps.getD i pm0).1, (ps.getD i pm0).2) := by
 conv => lhs; unfold qJ
 rw [if_pos h]
theorem qJ_no (r : Bool) (M : Nat → Bool) (ps : List (Tk × Mt)) {i : Nat} (h : M i = false) : qJ r M ps (i + 1) = qJ r M ps i := by
 conv => lhs; unfold qJ
 rw [if_neg (by rw [h]; simp)]
theorem qJ_len (r : Bool) (M : Nat → Bool) (ps : List (Tk × Mt)) : ∀ i, (qJ r M ps i).length = ps.length
 | 0 => rfl
 | i + 1 => by
  unfold qJ
  split
  · rw [List.length_set]; exact qJ_len r M ps i
  · exact qJ_len r M ps i
theorem qJ_at (r : Bool) (M : Nat → Bool) (ps : List (Tk × Mt)) : ∀ i, i ≤ ps.length → ∀ j, i ≤ j → (qJ r M ps i).getD j pm0 = ps.getD j pm0
 | 0, _, _, _ => rfl
 | i + 1, hi, j, hj => by
  unfold qJ
  split
  · rw [getD_set _ _ _ _ _ (by rw [qJ_len]; omega), if_neg (by omega)]
    exact qJ_at r M ps i (by omega) j (by omega)
  · exact qJ_at r M ps i (by omega) j (by omega)
theorem qJ_same (r : Bool) (M : Nat → Bool) (ps : List (Tk × Mt)) : ∀ i, i ≤ ps.length → ∀ j, ((qJ r M ps i).getD j pm0).2 = (ps.getD j pm0).2 ∧ ((qJ r M ps i).getD j pm0).1.rs = (ps.getD j pm0).1.rs ∧ ((qJ r M ps i).getD j pm0).1.ws = (ps.getD j pm0).1.ws
 | 0, _, _ => ⟨rfl, rfl, rfl⟩
 | i + 1, hi, j => by
  unfold qJ
  split
  · rw [getD_set _ _ _ _ _ (by rw [qJ_len]; omega)]
    by_cases h : i = j
    · subst h
      rw [if_pos rfl]
      exact ⟨rfl, (oth_rs _ _).1, (oth_rs _ _).2.1⟩
    · rw [if_neg h]; exact qJ_same r M ps i (by omega) j
  · exact qJ_same r M ps i (by omega) j
theorem map_getD (ps : List (Tk × Mt)) (i : Nat) : (ps.map (·.1)).getD i tk0 = (ps.getD i pm0).1 := by
 by_cases h : i < ps.length
 · simp [List.getD, h]
 · simp [List.getD, List.getElem?_eq_none (Nat.le_of_not_lt h), pm0]
theorem qJ_map (r : Bool) (M : Nat → Bool) (ps : List (Tk × Mt)) : ∀ i, (qJ r M ps i).map (·.1) = mkJ r M (ps.map (·.1)) i
 | 0 => rfl
 | i + 1 => by
  unfold qJ mkJ
  split
  · rw [List.map_set, qJ_map r M ps i, map_getD]
  · exact qJ_map r M ps i
theorem BandsP.same {w : World} {lo hi : Nat} {ps qs : List (Tk × Mt)} (h : BandsP w lo hi ps) (hl : qs.length = ps.length) (hs : ∀ j, (qs.getD j pm0).2 = (ps.getD j pm0).2 ∧ (qs.getD j pm0).1.rs = (ps.getD j pm0).1.rs ∧ (qs.getD j pm0).1.ws = (ps.getD j pm0).1.ws) : BandsP w lo hi qs := by
 have e1 : ∀ j (hj : j < ps.length), ps.getD j pm0 = ps[j] := fun j hj => by simp [List.getD, hj]
 have e2 : ∀ j (hj : j < qs.length), qs.getD j pm0 = qs[j] := fun j hj => by simp [List.getD, hj]
 refine ⟨fun p hp => ?_, ?_⟩
 · obtain ⟨j, hj, rfl⟩ := List.getElem_of_mem hp
   have := hs j
   rw [e2 j hj, e1 j (by omega)] at this
   have o := h.own _ (List.getElem_mem (show j < ps.length by omega))
   exact ⟨by rw [this.1, this.2.1]; exact o.rd, by rw [this.1, this.2.2]; exact o.wr, by rw [this.1]; exact o.apart⟩
 · rw [List.pairwise_iff_getElem]
   intro i j hi' hj hij b hb
   have h1 := (hs i).1
   have h2 := (hs j).1
   rw [e2 i hi', e1 i (by omega)] at h1
   rw [e2 j hj, e1 j (by omega)] at h2
   rw [h1] at hb
   rw [h2]
   exact (List.pairwise_iff_getElem.1 h.apart) i j (by omega) (by omega) hij b hb
theorem qJ_last {w : World} {lo hi : Nat} {ps : List (Tk × Mt)} {k : Nat} {t0 : Tk} {m0 : Mt} (r : Bool) (M : Nat → Bool) (hk : k < ps.length) (i : Nat) (hi' : i ≤ ps.length) (h : BandsP w lo hi (ps.set k (t0, m0))) : BandsP w lo hi ((qJ r M ps i).set k (tJ r M t0 i, m0)) := by
 refine h.same (by rw [List.length_set, List.length_set, qJ_len]) (fun j => ?_)
 rw [getD_set _ _ _ _ _ (by rw [qJ_len]; exact hk), getD_set _ _ _ _ _ hk]
 by_cases c : k = j
 · rw [if_pos c, if_pos c]
   exact ⟨rfl, (tJ_rs r M t0 i).1, (tJ_rs r M t0 i).2.1⟩
 · rw [if_neg c, if_neg c]
   exact qJ_same r M ps i hi' j
theorem owns_row8 {w : World} {lo g n c : Nat} {qs : List (Tk × Mt)} (o : w.ownsRow lo 52 8 (.slice (some ⟨g, 0, none⟩) n c) n (cP qs)) (hl : qs.length = n) {i : Nat} (hi : i < n) (p : Tk × Mt) : (w.setCells g (i * 8) (cellsT1 p.1 p.2)).ownsRow lo 52 8 (.slice (some ⟨g, 0, none⟩) n c) n (cP (qs.set i p)) := by
 obtain ⟨rest, hG, hx, hr, hnc, hcm, hlo⟩ := owns_block o
 have hiq : i < qs.length := by omega
 have e1 : cP qs = cP (qs.take i) ++ (cellsT1 qs[i].1 qs[i].2 ++ cP (qs.drop (i + 1))) := by
  conv => lhs; rw [← List.take_append_drop i qs, List.drop_eq_getElem_cons hiq, cP_app, cP_cons]
 have l1 : (cP (qs.take i)).length = i * 8 := by rw [cP_len, List.length_take]; omega
 have e2 : cP (qs.set i p) = cP (qs.take i) ++ (cellsT1 p.1 p.2 ++ cP (qs.drop (i + 1))) := by rw [List.set_eq_take_append_cons_drop, if_pos hiq, cP_app, cP_cons]
 have h1 := heapL_setCells g 52 (cellsT1 p.1 p.2) (i * 8) w _ (by rw [List.length_append, hx]; simp [cellsT1]; omega) hG
 have e3 : (cP qs ++ rest).take (i * 8) ++ cellsT1 p.1 p.2 ++ (cP qs ++ rest).drop (i * 8 + (cellsT1 p.1 p.2).length) = cP (qs.set i p) ++ rest := by
  have t1 : (cP qs ++ rest).take (i * 8) = cP (qs.take i) := by rw [e1, List.append_assoc, ← l1, List.take_left]
  have t2 : (cP qs ++ rest).drop (i * 8 + (cellsT1 p.1 p.2).length) = cP (qs.drop (i + 1)) ++ rest := by
   rw [show (cellsT1 p.1 p.2).length = (cellsT1 qs[i].1 qs[i].2).length by simp [cellsT1], e1, List.append_assoc, ← l1, ← List.drop_drop, List.drop_left, List.append_assoc, List.drop_left]
  rw [t1, t2, e2, List.append_assoc, List.append_assoc, List.append_assoc]
 rw [e3] at h1
 exact block_owns h1 (by rw [cP_len, List.length_set]; omega) (by rw [List.length_append, cP_len, List.length_set, ← cP_len, ← List.length_append]; exact hr) hnc hcm hlo
theorem row_box {w : World} {lo g n c : Nat} {qs : List (Tk × Mt)} (o : w.ownsRow lo 52 8 (.slice (some ⟨g, 0, none⟩) n c) n (cP qs)) (hl : qs.length = n) {i : Nat} (hi : i < n) : Box8 w g (i * 8) (qs.getD i pm0).1 (qs.getD i pm0).2.y (qs.getD i pm0).2.z := by
 obtain ⟨rest, hG, hx, hr, hnc, hcm, hlo⟩ := owns_block o
 have hiq : i < qs.length := by omega
 have e1 : cP qs = cP (qs.take i) ++ (cellsT1 qs[i].1 qs[i].2 ++ cP (qs.drop (i + 1))) := by
  conv => lhs; rw [← List.take_append_drop i qs, List.drop_eq_getElem_cons hiq, cP_app, cP_cons]
 have l1 : (cP (qs.take i)).length = i * 8 := by rw [cP_len, List.length_take]; omega
 rw [show qs.getD i pm0 = qs[i] by simp [List.getD, hiq]]
 exact mid_box (ty := 52) (L := cP (qs.take i)) (R := cP (qs.drop (i + 1)) ++ rest) (by rw [hG, e1]; simp only [List.append_assoc]) l1
theorem row_there {w : World} {lo g n c : Nat} {qs : List (Tk × Mt)} (o : w.ownsRow lo 52 8 (.slice (some ⟨g, 0, none⟩) n c) n (cP qs)) {i : Nat} (hi : i < n) : w.there g (i * 8) 8 := by
 obtain ⟨rest, hG, hx, hr, hnc, hcm, hlo⟩ := owns_block o
 exact block_there hG (by rw [List.length_append, hx]; omega)
end Go.Proofs.YtnhlfkffllbpiaaGreat
