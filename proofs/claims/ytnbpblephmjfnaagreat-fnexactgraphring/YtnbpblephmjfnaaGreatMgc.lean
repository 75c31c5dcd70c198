/- Texts of this proof in one: Ek13 Ga14 Ee13 Ef13 Eg13 Eh13 El13 Em13. -/
import Derived.Test.YtnbpblephmjfnaaGreatEj13
import Derived.Test.YtnbpblephmjfnaaGreatMga
import Derived.Test.YtnbpblephmjfnaaGreatEd13
/- The contract of the specification's TrackReads. Conditions: texts of at most 2^21 bytes, at most 2^21 reads. -/


namespace Go.Proofs.YtnbpblephmjfnaaGreat
open Go.RowKit
set_option maxRecDepth 100000
theorem any_none {rs : List (Im × Im)} {x : Im} (h : ∀ i, i < rs.length → inM (rs.getD i sp0) x = false) : rs.any (fun p => inM p x) = false := by
 rw [List.any_eq_false]
 intro p hp
 obtain ⟨i, hi, rfl⟩ := List.getElem_of_mem hp
 have := h i hi
 rw [show rs.getD i sp0 = rs[i] by simp [List.getD, hi]] at this
 rw [this]; simp
theorem any_one {rs : List (Im × Im)} {x : Im} {i : Nat} (hi : i < rs.length) (h : inM (rs.getD i sp0) x = true) : rs.any (fun p => inM p x) = true := by
 rw [List.any_eq_true]
 refine ⟨rs[i], List.getElem_mem hi, ?_⟩
 rw [show rs.getD i sp0 = rs[i] by simp [List.getD, hi]] at h
 exact h
end Go.Proofs.YtnbpblephmjfnaaGreat
/- Slices of deeds, read and owned: a deed is told as a track whose marks are not looked at. No conditions. -/

namespace Go.Proofs.YtnbpblephmjfnaaGreat
open Go.RowKit
set_option maxRecDepth 100000
def cellsV1 (t : Tk) (m : Mt) : List Value := [.int .i64 t.xid, .int .i64 t.begun, .int .i64 t.ended, m.y, m.z]
def cellsV : List Tk → List Mt → List Value
 | t :: ts, m :: ms => cellsV1 t m ++ cellsV ts ms
 | _, _ => []
theorem cellsV_cons (t : Tk) (ts : List Tk) (m : Mt) (ms : List Mt) : cellsV (t :: ts) (m :: ms) = cellsV1 t m ++ cellsV ts ms := by rw [cellsV]
theorem cellsV_len : ∀ (ts : List Tk) (ms : List Mt), ms.length = ts.length → (cellsV ts ms).length = ts.length * 5
 | [], [], _ => rfl
 | t :: ts, m :: ms, h => by
  rw [cellsV_cons, List.length_append, cellsV_len ts ms (by simpa using h)]
  simp [cellsV1]; omega
theorem cellsV_at : ∀ (ts : List Tk) (ms : List Mt) (i j : Nat), ms.length = ts.length → i < ts.length → j < 5 → (cellsV ts ms)[i * 5 + j]? = (cellsV1 (ts.getD i tk0) (ms.getD i mt0))[j]?
 | t :: ts, m :: ms, 0, j, _, _, hj => by
  rw [cellsV_cons, Nat.zero_mul, Nat.zero_add, List.getElem?_append_left (by simp [cellsV1]; omega)]
  rfl
 | t :: ts, m :: ms, i + 1, j, h, hi, hj => by
  have ih := cellsV_at ts ms i j (by simpa using h) (by simpa using hi) hj
  rw [cellsV_cons, List.getElem?_append_right (by simp [cellsV1]; omega), List.getD_cons_succ, List.getD_cons_succ, ← ih]
  congr 1
  simp [cellsV1]; omega
structure ReadsV (w : World) (ad : Option Addr) (ts : List Tk) : Prop where
 cells : ts.length = 0 ∨ ∃ b off, ad = some ⟨b, off, none⟩ ∧ ∀ i, i < ts.length → ∃ a c a' c', (w.cell? ⟨b, off + i * 5, none⟩ = some (.int .i64 (ts.getD i tk0).xid) ∧ w.cell? ⟨b, off + i * 5 + 1, none⟩ = some (.int .i64 (ts.getD i tk0).begun) ∧ w.cell? ⟨b, off + i * 5 + 2, none⟩ = some (.int .i64 (ts.getD i tk0).ended) ∧ w.cell? ⟨b, off + i * 5 + 3, none⟩ = some (.slice a (ts.getD i tk0).rs.length c) ∧ w.cell? ⟨b, off + i * 5 + 4, none⟩ = some (.slice a' (ts.getD i tk0).ws.length c')) ∧ ReadsM w a (fl2 (ts.getD i tk0).rs) ∧ (ts.getD i tk0).rs.length ≤ maxLen ∧ ReadsM w a' (ts.getD i tk0).ws ∧ (ts.getD i tk0).ws.length ≤ maxLen
theorem ReadsV.nil (w : World) (ad : Option Addr) : ReadsV w ad [] := ⟨.inl rfl⟩
structure Box5 (w : World) (b o : Nat) (t : Tk) (x y : Value) : Prop where
 c0 : w.cell? ⟨b, o, none⟩ = some (.int .i64 t.xid)
 c1 : w.cell? ⟨b, o + 1, none⟩ = some (.int .i64 t.begun)
 c2 : w.cell? ⟨b, o + 2, none⟩ = some (.int .i64 t.ended)
 c3 : w.cell? ⟨b, o + 3, none⟩ = some x
 c4 : w.cell? ⟨b, o + 4, none⟩ = some y
theorem Box5.lt {w : World} {b o : Nat} {t : Tk} {x y : Value} (q : Box5 w b o t x y) : b < w.heap.size := World.block_lt_of_cell? w _ q.c0
theorem Box5.agree {w w' : World} {b o : Nat} {t : Tk} {x y : Value} (q : Box5 w b o t x y) (e : w'.heap[b]? = w.heap[b]?) : Box5 w' b o t x y :=
 ⟨(World.cell?_of_block (w := w) (a := ⟨b, o, none⟩) e).trans q.c0, (World.cell?_of_block (w := w) (a := ⟨b, o + 1, none⟩) e).trans q.c1, (World.cell?_of_block (w := w) (a := ⟨b, o + 2, none⟩) e).trans q.c2, (World.cell?_of_block (w := w) (a := ⟨b, o + 3, none⟩) e).trans q.c3, (World.cell?_of_block (w := w) (a := ⟨b, o + 4, none⟩) e).trans q.c4⟩
theorem Box5.below {w w' : World} {b o : Nat} {t : Tk} {x y : Value} (q : Box5 w b o t x y) {B : Nat} (hb : Below B w w') (hB : w.heap.size ≤ B) : Box5 w' b o t x y := q.agree (hb.block b (Nat.lt_of_lt_of_le q.lt hB))
theorem ReadsV.at {w : World} {ad : Option Addr} {ts : List Tk} (h : ReadsV w ad ts) {k : Nat} (hk : k < ts.length) : ∃ b off a c a' c', ad = some ⟨b, off, none⟩ ∧ Box5 w b (off + k * 5) (ts.getD k tk0) (.slice a (ts.getD k tk0).rs.length c) (.slice a' (ts.getD k tk0).ws.length c') ∧ ReadsM w a (fl2 (ts.getD k tk0).rs) ∧ (ts.getD k tk0).rs.length ≤ maxLen ∧ ReadsM w a' (ts.getD k tk0).ws ∧ (ts.getD k tk0).ws.length ≤ maxLen := by
 rcases h.cells with h0 | ⟨b, off, rfl, hc⟩
 · omega
 · obtain ⟨a, c, a', c', ⟨h0, h1, h2, h3, h4⟩, r1, m1, r2, m2⟩ := hc k hk
   exact ⟨b, off, a, c, a', c', rfl, ⟨h0, h1, h2, h3, h4⟩, r1, m1, r2, m2⟩
theorem ReadsV.below {w w' : World} {ad : Option Addr} {ts : List Tk} (h : ReadsV w ad ts) {B : Nat} (hb : Below B w w') (hB : w.heap.size ≤ B) : ReadsV w' ad ts := by
 refine ⟨?_⟩
 rcases h.cells with h0 | ⟨b, off, rfl, hc⟩
 · exact .inl h0
 · refine .inr ⟨b, off, rfl, fun i hi => ?_⟩
   obtain ⟨a, c, a', c', ⟨h0, h1, h2, h3, h4⟩, r1, m1, r2, m2⟩ := hc i hi
   have q := Box5.below (t := ts.getD i tk0) ⟨h0, h1, h2, h3, h4⟩ hb hB
   exact ⟨a, c, a', c', ⟨q.c0, q.c1, q.c2, q.c3, q.c4⟩, r1.below hb hB, m1, r2.below hb hB, m2⟩
structure OwnV (w : World) (lo hi : Nat) (v : Value) (ts : List Tk) : Prop where
 own : ∃ ms : List Mt, ms.length = ts.length ∧ w.ownsRow lo 68 5 v ts.length (cellsV ts ms) ∧ (∀ i, i < ts.length → OwnT1 w lo hi (ms.getD i mt0) (ts.getD i tk0)) ∧ ∀ i j, i < j → j < ts.length → ∀ b, blkT (ms.getD i mt0) b → ¬ blkT (ms.getD j mt0) b
 top : ∀ g, v.ownBlock = some g → g < hi
section
variable {w w' : World} {lo hi : Nat} {v : Value} {ts : List Tk}
theorem OwnV.nil (w : World) (lo hi : Nat) : OwnV w lo hi (.slice none 0 0) [] :=
 ⟨⟨[], rfl, World.ownsRow_nil _ _ _ _, (fun i hi => by cases hi), (fun i j _ hj => by cases hj)⟩, (fun g hg => by cases hg)⟩
theorem OwnV.agree (h : OwnV w lo hi v ts) (ha : Agree lo hi w w') : OwnV w' lo hi v ts := by
 obtain ⟨ms, hm, o, h1, h2⟩ := h.own
 exact ⟨⟨ms, hm, owns_agree o ha (fun g hg => ⟨(o.lt g hg).1, h.top g hg⟩), (fun i hi => (h1 i hi).agree ha), h2⟩, h.top⟩
theorem OwnV.below (h : OwnV w lo hi v ts) {B : Nat} (hb : Below B w w') (hB : hi ≤ B) : OwnV w' lo hi v ts := h.agree (Agree.below hb hB)
theorem OwnV.mono {lo' hi' : Nat} (h : OwnV w lo hi v ts) (hl : lo' ≤ lo) (hh : hi ≤ hi') : OwnV w lo' hi' v ts := by
 obtain ⟨ms, hm, o, h1, h2⟩ := h.own
 exact ⟨⟨ms, hm, owns_lower o hl, (fun i hi => (h1 i hi).mono hl hh), h2⟩, fun g hg => Nat.lt_of_lt_of_le (h.top g hg) hh⟩
theorem OwnV.slice (h : OwnV w lo hi v ts) : ∃ a c, v = .slice a ts.length c := by
 obtain ⟨ms, hm, o, _⟩ := h.own
 exact own_sl o
theorem OwnV.rd {a : Option Addr} {n c : Nat} (h : OwnV w lo hi (.slice a n c) ts) : ReadsV w a ts := by
 obtain ⟨ms, hm, o, h1, _⟩ := h.own
 rcases o.2 with ⟨e, h0⟩ | ⟨g, cap, cur, e, _⟩
 · cases e; exact ⟨.inl h0⟩
 · cases e
   refine ⟨.inr ⟨g, 0, rfl, fun i hi => ?_⟩⟩
   have hc := fun j (hj : j < 5) => (o.cellAt (i * 5 + j) (by omega)).trans (cellsV_at ts ms i j hm hi hj)
   have q := h1 i hi
   obtain ⟨a1, c1, e1⟩ := q.rd.slice
   obtain ⟨a2, c2, e2⟩ := q.wr.slice
   have q1 := q.rd
   have q2 := q.wr
   rw [e1] at q1
   rw [e2] at q2
   rw [Nat.zero_add]
   refine ⟨a1, c1, a2, c2, ⟨hc 0 (by omega), hc 1 (by omega), hc 2 (by omega), ?_, ?_⟩, q1.rd, q1.max, q2.rd, q2.max⟩
   · have := hc 3 (by omega); simp only [cellsV1, e1] at this; exact this
   · have := hc 4 (by omega); simp only [cellsV1, e2] at this; exact this
end
end Go.Proofs.YtnbpblephmjfnaaGreat
/- The contracts of the laws' toTrack, szTrack, eqTrack. Conditions: tracks of at most 2^21 bytes, reads and writes together. -/

namespace Go.Proofs.YtnbpblephmjfnaaGreat
open Go.RowKit
set_option maxRecDepth 100000
def szT (t : Tk) : Nat := (t.rs.length + sumI (fl2 t.rs)) + (t.ws.length + sumI t.ws)
theorem grown_set13 (w : World) (b o : Nat) (v : Value) : w.grownBy (w.setCell ⟨b, o, none⟩ v) (some b) := ⟨rfl, rfl, rfl, by rw [set_size]; exact Nat.le_refl _, fun k _ hk => heap_set_ne w b o k v (fun e => hk (by rw [e]))⟩
theorem blkL_ge {w : World} {lo hi : Nat} {xs : List Value} {ss : List (List Int)} (h : Bands w lo hi xs ss) {b : Nat} (hb : blkL xs b) : lo ≤ b ∧ b < hi := by
 obtain ⟨i, hi'⟩ := blk_txt hb
 exact h.inr i b hi'
end Go.Proofs.YtnbpblephmjfnaaGreat
/- The contracts of the laws' toTrackS, szTrackS, eqTrackS. Conditions: tracks of at most 2^21 bytes together. -/

namespace Go.Proofs.YtnbpblephmjfnaaGreat
open Go.RowKit
set_option maxRecDepth 100000
def sumT : List Tk → Nat
 | [] => 0
 | t :: ts => szT t + sumT ts
theorem sumT_app : ∀ a b : List Tk, sumT (a ++ b) = sumT a + sumT b
 | [], b => by simp [sumT]
 | t :: a, b => by simp [sumT, sumT_app a b]; omega
theorem take_snocT (ts : List Tk) (k : Nat) (h : k < ts.length) : ts.take (k + 1) = ts.take k ++ [ts.getD k tk0] := by
 rw [List.take_add_one, List.getElem?_eq_getElem h, Option.toList_some]
 simp [List.getD, h]
theorem sumT_step (ts : List Tk) (k : Nat) (h : k < ts.length) : sumT (ts.take (k + 1)) = sumT (ts.take k) + szT (ts.getD k tk0) := by
 rw [take_snocT ts k h, sumT_app]; simp [sumT]
theorem sumT_take (ts : List Tk) (k : Nat) : sumT (ts.take k) ≤ sumT ts := by
 have : sumT ts = sumT (ts.take k ++ ts.drop k) := by rw [List.take_append_drop]
 rw [this, sumT_app]; omega
theorem sumT_at (ts : List Tk) (k : Nat) (h : k < ts.length) : szT (ts.getD k tk0) ≤ sumT ts := by
 have h1 := sumT_step ts k h
 have h2 := sumT_take ts (k + 1)
 omega
structure BandsT (w : World) (lo hi : Nat) (ms : List Mt) (ts : List Tk) : Prop where
 len : ms.length = ts.length
 own : ∀ i, i < ts.length → OwnT1 w lo hi (ms.getD i mt0) (ts.getD i tk0)
 apart : ∀ i j, i < j → j < ts.length → ∀ b, blkT (ms.getD i mt0) b → ¬ blkT (ms.getD j mt0) b
section
variable {w w' : World} {lo hi : Nat} {ms : List Mt} {ts : List Tk}
theorem BandsT.nil (w : World) (lo hi : Nat) : BandsT w lo hi [] [] := ⟨rfl, (fun i h => by cases h), (fun i j _ h => by cases h)⟩
theorem BandsT.agree (h : BandsT w lo hi ms ts) (ha : Agree lo hi w w') : BandsT w' lo hi ms ts := ⟨h.len, (fun i hi => (h.own i hi).agree ha), h.apart⟩
theorem BandsT.mono {lo' hi' : Nat} (h : BandsT w lo hi ms ts) (hl : lo' ≤ lo) (hh : hi ≤ hi') : BandsT w lo' hi' ms ts := ⟨h.len, (fun i hi => (h.own i hi).mono hl hh), h.apart⟩
theorem BandsT.keep {X : Nat → Prop} (h : BandsT w lo hi ms ts) (g : Keeps X w w') (hne : ∀ i, i < ts.length → ∀ k, blkT (ms.getD i mt0) k → ¬ X k) : BandsT w' lo hi ms ts := ⟨h.len, (fun i hi => (h.own i hi).keep g (hne i hi)), h.apart⟩
theorem BandsT.snoc {mid : Nat} (h : BandsT w lo mid ms ts) {m : Mt} {t : Tk} (h1 : lo ≤ mid) (h2 : mid ≤ hi) (o : OwnT1 w mid hi m t) : BandsT w lo hi (ms ++ [m]) (ts ++ [t]) := by
 have e1 : ∀ i, i < ts.length → (ms ++ [m]).getD i mt0 = ms.getD i mt0 ∧ (ts ++ [t]).getD i tk0 = ts.getD i tk0 := fun i hi => ⟨by rw [getD_app, if_pos (by rw [h.len]; exact hi)], by rw [getD_app, if_pos hi]⟩
 have e2 : (ms ++ [m]).getD ts.length mt0 = m ∧ (ts ++ [t]).getD ts.length tk0 = t := ⟨by rw [getD_app, if_neg (by rw [h.len]; omega), h.len, Nat.sub_self]; rfl, by rw [getD_app, if_neg (by omega), Nat.sub_self]; rfl⟩
 refine ⟨by simp [h.len], fun i hi => ?_, fun i j hij hj b hb hc => ?_⟩
 · simp only [List.length_append, List.length_singleton] at hi
   by_cases hc : i < ts.length
   · rw [(e1 i hc).1, (e1 i hc).2]; exact (h.own i hc).mono (Nat.le_refl _) h2
   · obtain rfl : i = ts.length := by omega
     rw [e2.1, e2.2]; exact o.mono h1 (Nat.le_refl _)
 · simp only [List.length_append, List.length_singleton] at hj
   rw [(e1 i (by omega)).1] at hb
   by_cases hq : j < ts.length
   · rw [(e1 j hq).1] at hc
     exact h.apart i j hij hq b hb hc
   · obtain rfl : j = ts.length := by omega
     rw [e2.1] at hc
     have h3 := (h.own i (by omega)).inr hb
     have h4 := o.inr hc
     omega
end
def Tk.same (t u : Tk) : Prop := t.xid = u.xid ∧ t.begun = u.begun ∧ t.ended = u.ended ∧ t.all = u.all ∧ SameM (fl2 t.rs) (fl2 u.rs) ∧ SameM t.ws u.ws ∧ t.inn = u.inn ∧ t.out = u.out
def SameT (ts us : List Tk) : Prop := ts.length = us.length ∧ ∀ i, (ts.getD i tk0).same (us.getD i tk0)
theorem SameT.refl (ts : List Tk) : SameT ts ts := ⟨rfl, fun _ => ⟨rfl, rfl, rfl, rfl, SameM.refl _, SameM.refl _, rfl, rfl⟩⟩
theorem same_rs {a b : List (Im × Im)} (h : SameM (fl2 a) (fl2 b)) : b.length = a.length := by
 have := h.1
 rw [fl2_len, fl2_len] at this
 omega
end Go.Proofs.YtnbpblephmjfnaaGreat
/- The contracts of the laws' markItemS, heldItemS, markSpanS, heldSpanS, markSpan, heldSpan. Conditions: items of at most 2^21 bytes together. -/


namespace Go.Proofs.YtnbpblephmjfnaaGreat
open Go.RowKit
set_option maxRecDepth 100000
def flM (z : Int) : Nat := floatOfInt .f64 z
theorem flM_ok {z : Int} (h0 : 0 ≤ z) (h1 : z ≤ 1000000000000) : flM z < 18446744073709551616 ∧ FloatKind.f64.format.order (flM z) (flM z) = some .eq := by
 obtain ⟨n, rfl⟩ := Int.eq_ofNat_of_zero_le h0
 have hn : n < 2 ^ 53 := by omega
 unfold flM
 rw [of_F n hn]
 have hlt := F_lt n 1074 hn (by omega)
 have h64 : F n 1074 < 18446744073709551616 := by omega
 have hN : isN (F n 1074) = false := (isN_not _).2 (by omega)
 exact ⟨h64, order_eq _ _ h64 h64 hN hN rfl⟩
def mkI1 (k : Int) (e : Im) : Im := ⟨k, k + 1, flM (k + 2), marks (k + 3) e.Z.length⟩
def nmI (e : Im) : Nat := 3 + e.Z.length
def sumN : List Im → Nat
 | [] => 0
 | e :: es => nmI e + sumN es
theorem sumN_app : ∀ a b : List Im, sumN (a ++ b) = sumN a + sumN b
 | [], b => by simp [sumN]
 | e :: a, b => by simp [sumN, sumN_app a b]; omega
theorem sumN_step (es : List Im) (k : Nat) (h : k < es.length) : sumN (es.take (k + 1)) = sumN (es.take k) + nmI (es.getD k im0) := by
 rw [take_snocI es k h, sumN_app]; simp [sumN]
theorem sumN_take (es : List Im) (k : Nat) : sumN (es.take k) ≤ sumN es := by
 have : sumN es = sumN (es.take k ++ es.drop k) := by rw [List.take_append_drop]
 rw [this, sumN_app]; omega
theorem sumN_eq : ∀ es : List Im, sumN es = es.length * 3 + sumI es
 | [] => rfl
 | e :: es => by simp [sumN, sumI, nmI, sumN_eq es]; omega
def mkIs : Int → List Im → List Im
 | _, [] => []
 | k, e :: es => mkI1 k e :: mkIs (k + nmI e) es
theorem mkIs_length : ∀ (k : Int) (es : List Im), (mkIs k es).length = es.length
 | _, [] => rfl
 | k, e :: es => by simp [mkIs, mkIs_length]
theorem mkIs_app : ∀ (k : Int) (a b : List Im), mkIs k (a ++ b) = mkIs k a ++ mkIs (k + sumN a) b
 | k, [], b => by simp [mkIs, sumN]
 | k, e :: a, b => by
  simp only [List.cons_append, mkIs, mkIs_app]
  rw [show k + (nmI e : Int) + (sumN a : Int) = k + ((sumN (e :: a) : Nat) : Int) by simp only [sumN]; omega]
def Qs (k : Int) (es : List Im) (i : Nat) : List Im := mkIs k (es.take i) ++ es.drop i
theorem Qs_zero (k : Int) (es : List Im) : Qs k es 0 = es := by simp [Qs, mkIs]
theorem Qs_all (k : Int) (es : List Im) {i : Nat} (h : es.length ≤ i) : Qs k es i = mkIs k es := by
 unfold Qs
 rw [List.take_of_length_le h, List.drop_eq_nil_of_le h, List.append_nil]
theorem Qs_len (k : Int) (es : List Im) (i : Nat) : (Qs k es i).length = es.length := by
 unfold Qs
 rw [List.length_append, mkIs_length, List.length_take, List.length_drop]; omega
theorem Qs_set (k : Int) (es : List Im) (i : Nat) (h : i < es.length) : (Qs k es i).set i (mkI1 (k + sumN (es.take i)) (es.getD i im0)) = Qs k es (i + 1) := by
 unfold Qs
 rw [List.set_append_right _ _ (by rw [mkIs_length, List.length_take]; omega), mkIs_length, List.length_take, show i - min i es.length = 0 by omega, take_snocI es i h, mkIs_app, List.append_assoc]
 congr 1
 have : es.drop i = es.getD i im0 :: es.drop (i + 1) := by
  rw [List.drop_eq_getElem_cons h]; simp [List.getD, h]
 rw [this, List.set_cons_zero]
 rfl
theorem Qs_at (k : Int) (es : List Im) (i : Nat) (h : i < es.length) : (Qs k es i).getD i im0 = es.getD i im0 := by
 unfold Qs
 rw [getD_app, mkIs_length, List.length_take, if_neg (by omega), show i - min i es.length = 0 by omega]
 rw [List.drop_eq_getElem_cons h]; simp [List.getD, h]
theorem cellsI_set3 : ∀ (es : List Im) (xs : List Value) (k : Nat) (e : Im), xs.length = es.length → k < es.length → (((cellsI es xs).set (k * 4) (.int .i64 e.K)).set (k * 4 + 1) (.int .i64 e.N)).set (k * 4 + 2) (.float .f64 e.F) = cellsI (es.set k e) xs
 | q :: es, y :: xs, 0, e, _, _ => by simp [cellsI, cellsI1]
 | q :: es, y :: xs, k + 1, e, h, hk => by
  have ih := cellsI_set3 es xs k e (by simpa using h) (by simpa using hk)
  rw [show (k + 1) * 4 = k * 4 + 4 by omega]
  simp only [cellsI, cellsI1, List.cons_append, List.nil_append, List.set_cons_succ, ← ih]
section
variable {t : TypeId} {s : Nat} {w w' : World} {lo hi g c : Nat} {n : Nat} {es : List Im} {xs : List Value} {i : Nat}
theorem OwnX.box {v : Value} (h : OwnX t s w lo hi v n es xs) (hi' : i < es.length) : ∃ g c a1 c1, v = .slice (some ⟨g, 0, none⟩) n c ∧ xs.getD i nilS = .slice a1 (es.getD i im0).Z.length c1 ∧ Box4 w g (i * 4) (es.getD i im0).K (es.getD i im0).N (es.getD i im0).F (.slice a1 (es.getD i im0).Z.length c1) ∧ w.ownsRow lo 5 1 (.slice a1 (es.getD i im0).Z.length c1) (es.getD i im0).Z.length (bys (es.getD i im0).Z) ∧ ∀ q, w.frozen? ⟨g, q, none⟩ = false := by
 have hl := h.len
 have hxl : xs.length = es.length := by rw [h.txt.len, textsI_len]
 have o := h.row
 have hr := h.txt.own i
 rw [textsI_at] at hr
 obtain ⟨a1, c1, e1⟩ := own_sl hr
 rcases o.2 with ⟨_, h0⟩ | ⟨g, cap, cur, e, _⟩
 · subst h0; omega
 · subst e
   have hc := fun j (hj : j < 4) => (o.cellAt (i * 4 + j) (by omega)).trans (cellsI_at es xs i j hxl hi' hj)
   refine ⟨g, cap, a1, c1, rfl, e1, ⟨hc 0 (by omega), hc 1 (by omega), hc 2 (by omega), ?_⟩, by rw [← e1]; exact hr, fun q => o.frozenAt q⟩
   have := hc 3 (by omega); simp only [cellsI1, e1] at this; exact this
theorem OwnX.mark (k : Int) (h : OwnX t s w lo hi (.slice (some ⟨g, 0, none⟩) n c) n (Qs k es i) xs) {ofs : Nat} (hi' : i < es.length) (ho : ofs = i * 4) (ht : (5 : TypeId) ≠ t) {X : Int} (hX : k + sumN (es.take i) = X) (h0 : 0 ≤ X) (h1 : X ≤ 900000000) {zl : Nat} (hz : (es.getD i im0).Z.length = zl) {W3 : World} (hW : ((w.setCell ⟨g, ofs, none⟩ (.int .i64 X)).setCell ⟨g, ofs + 1, none⟩ (.int .i64 (X + 1))).setCell ⟨g, ofs + 2, none⟩ (.float .f64 (floatOfInt .f64 (X + 1 + 1))) = W3) {v : Value} (hv : xs.getD i nilS = v)
 (gr : W3.grownBy w' v.ownBlock) (o : w'.ownsRow lo 5 1 v zl (bys (marks (X + 1 + 1 + 1) zl))) : OwnX t s w' lo hi (.slice (some ⟨g, 0, none⟩) n c) n (Qs k es (i + 1)) xs ∧ Keeps (blkX (.slice (some ⟨g, 0, none⟩) n c) xs) w w' := by
 subst ho hW hv
 have hxl : xs.length = (Qs k es i).length := by rw [h.txt.len, textsI_len]
 have hql : i < (Qs k es i).length := by rw [Qs_len]; exact hi'
 have S0 := h.row.stored (i * 4) (.int .i64 X)
 have S1 := S0.1.stored (i * 4 + 1) (.int .i64 (X + 1))
 have S2 := S1.1.stored (i * 4 + 2) (.float .f64 (floatOfInt .f64 (X + 1 + 1)))
 have B1 := h.txt.beside S0.2 (fun j => owns_ne (h.txt.own j) h.row ht)
 have B2 := B1.beside S1.2 (fun j => owns_ne (B1.own j) S0.1 ht)
 have B3 := B2.beside S2.2 (fun j => owns_ne (B2.own j) S1.1 ht)
 have hr := S2.1.kept gr (owns_ne S2.1 (B3.own i) ht.symm)
 have ht2 : (textsI (Qs k es i)).set i (marks (X + 1 + 1 + 1) zl) = textsI (Qs k es (i + 1)) := by
  rw [← Qs_set k es i hi']
  simp only [textsI, List.map_set]
  congr 1
  unfold mkI1
  simp only
  rw [hX, hz, show X + 1 + 1 + 1 = X + 3 by omega]
 have B4 := B3.put (i := i) (by rw [textsI_len]; exact hql) gr (by rw [marks_length]; exact o) (marks_bd _ _)
 rw [ht2] at B4
 have hE : (⟨X, X + 1, floatOfInt .f64 (X + 1 + 1), marks (X + 3) zl⟩ : Im) = mkI1 (k + sumN (es.take i)) (es.getD i im0) := by
  unfold mkI1
  rw [hX, hz, show X + 1 + 1 = X + 2 by omega]; rfl
 have hcs := cellsI_set3 (Qs k es i) xs i ⟨X, X + 1, floatOfInt .f64 (X + 1 + 1), marks (X + 3) zl⟩ hxl hql
 rw [hE, Qs_set k es i hi', ← hE] at hcs
 simp only at hcs
 rw [hcs] at hr
 refine ⟨⟨hr, B4, h.top, fun j => ?_, by rw [Qs_len]; have := h.len; rw [Qs_len] at this; exact this⟩, ?_⟩
 · rw [← Qs_set k es i hi', getD_set' _ _ _ _ _ hql]
   split
   · exact (flM_ok (z := k + sumN (es.take i) + 2) (by omega) (by omega)).1
   · exact h.fl j
 · have K0 : Keeps (blkX (.slice (some ⟨g, 0, none⟩) n c) xs) w _ := Keeps.set w (p := ⟨g, i * 4, none⟩) (.inl rfl) (.int .i64 X)
   have K1 := K0.trans (Keeps.set (X := blkX (.slice (some ⟨g, 0, none⟩) n c) xs) _ (p := ⟨g, i * 4 + 1, none⟩) (.inl rfl) (.int .i64 (X + 1)))
   have K2 := K1.trans (Keeps.set (X := blkX (.slice (some ⟨g, 0, none⟩) n c) xs) _ (p := ⟨g, i * 4 + 2, none⟩) (.inl rfl) (.float .f64 (floatOfInt .f64 (X + 1 + 1))))
   exact K2.trans (Keeps.grown gr (fun b e => .inr (blkL_at e)))
end
set_option maxHeartbeats 6400000 in
theorem markItemS {lo hi : Nat} {a : Option Addr} {n : Nat} (c : Nat) {es : List Im} {xs : List Value} {w : World} (k : Int) (h : OwnX 72 4 w lo hi (.slice a n c) n es xs) (hl : es.length = n) (hn : n ≤ 2097152) (hs : sumI es ≤ 2097152) (hk0 : 0 ≤ k) (hk1 : k ≤ 400000000) :
 Calls Tryz.prog 60 #[.slice a n c, .int .i64 k] w fun e w' => e = .returned (.int .i64 (k + sumN es)) ∧ OwnX 72 4 w' lo hi (.slice a n c) n (mkIs k es) xs ∧ Keeps (blkX (.slice a n c) xs) w w' := by
 have hsb : sumN es ≤ 30000000 := by have := sumN_eq es; omega
 have HO := hid h
 clear h
 go_enter Tryz.func60, Tryz.ntmps60
 go_wp2
 go_loopw [1, 5] (fun x i wr => ∃ j : Nat, j ≤ n ∧ i = .int .i64 j ∧ x = .int .i64 (k + sumN (es.take j)) ∧ Hid (OwnX 72 4 wr lo hi (.slice a n c) n (Qs k es j) xs) ∧ Hid (Keeps (blkX (.slice a n c) xs) w wr)) (fun _ i _ => n - (intOf i).toNat)
 case atStart => exact ⟨0, Nat.zero_le _, rfl, by simp [sumN], hid (by rw [Qs_zero]; exact HO.out), hid (Keeps.refl _ _)⟩
 case round =>
  clear HO
  obtain ⟨j, hj, rfl, rfl, HO, HW⟩ := hrel
  by_cases hlt : j < n
  · have hlt' : (j : Int) < (n : Int) := by omega
    have hj0 : (0 : Int) ≤ (j : Int) := by omega
    obtain ⟨X0, hX0⟩ : ∃ X : Int, k + sumN (es.take j) = X := ⟨_, rfl⟩
    have hX : 0 ≤ X0 ∧ X0 ≤ 430000000 := by have := sumN_take es j; omega
    have St0 := hid (sumN_step es (j) (by omega))
    have hz0 := sumI_at es (j) (by omega)
    obtain ⟨g0, cc0, a10, c10, ev0, ex0, bx0, ro0, fz0⟩ := HO.out.box (i := j) (by rw [Qs_len]; omega)
    rw [Qs_at k es (j) (by omega)] at ex0 bx0 ro0
    obtain ⟨zl0, hzl0⟩ : ∃ zl, (es.getD (j) im0).Z.length = zl := ⟨_, rfl⟩
    rw [hzl0] at ex0 bx0 ro0 hz0
    have hzy0 : zl0 ≤ 2097152 := by omega
    obtain ⟨rfl, -, rfl⟩ : a = some ⟨g0, 0, none⟩ ∧ n = n ∧ c = cc0 := by injection ev0 with e1 e2 e3; exact ⟨e1, rfl, e3⟩
    obtain ⟨x0, x1, x2, x3⟩ := bx0
    have y0 := fz0 (j * 4)
    have y1 := fz0 (j * 4 + 1)
    have y2 := fz0 (j * 4 + 2)
    have hst := fun w a z m => run_store Tryz.prog w a (.float .f64 (floatOfInt .f64 z)) m rfl
    have R30 := hid (show (((wr.setCell ⟨g0, j * 4, none⟩ (.int .i64 X0)).setCell ⟨g0, j * 4 + 1, none⟩ (.int .i64 (X0 + 1))).setCell ⟨g0, j * 4 + 2, none⟩ (.float .f64 (floatOfInt .f64 (X0 + 1 + 1)))).ownsRow lo 5 1 (.slice a10 zl0 c10) zl0 _ from by
     have S0 := HO.out.row.stored (j * 4) (.int .i64 X0)
     have S1 := S0.1.stored (j * 4 + 1) (.int .i64 (X0 + 1))
     have S2 := S1.1.stored (j * 4 + 2) (.float .f64 (floatOfInt .f64 (X0 + 1 + 1)))
     have r0 := ro0.kept S0.2 (owns_ne ro0 HO.out.row (by decide))
     have r1 := r0.kept S1.2 (owns_ne r0 S0.1 (by decide))
     exact r1.kept S2.2 (owns_ne r1 S1.1 (by decide)))
    have EX0 := hid ex0
    have ZL0 := hid hzl0
    have HX0 := hid hX0
    have WE := ((wr.setCell ⟨g0, j * 4, none⟩ (.int .i64 X0)).setCell ⟨g0, j * 4 + 1, none⟩ (.int .i64 (X0 + 1))).setCell ⟨g0, j * 4 + 2, none⟩ (.float .f64 (floatOfInt .f64 (X0 + 1 + 1)))
    clear ex0 ro0 fz0 ev0 hzl0 WE hX0 hz0
    rw [HX0.out]
    go_wp2_with fail
    clear x0 x1 x2 x3 y0 y1 y2 hst
    obtain ⟨W30, hW30⟩ : ∃ W, ((wr.setCell ⟨g0, j * 4, none⟩ (.int .i64 X0)).setCell ⟨g0, j * 4 + 1, none⟩ (.int .i64 (X0 + 1))).setCell ⟨g0, j * 4 + 2, none⟩ (.float .f64 (floatOfInt .f64 (X0 + 1 + 1))) = W := ⟨_, rfl⟩
    rw [hW30] at R30 ⊢
    refine (markByteS_any (X0 + 1 + 1 + 1) (by omega) (by omega) (by omega) R30.out).mono ?_
    rintro e W1 ⟨rfl, o8, g8⟩
    have MK0 := HO.out.mark k (i := j) (by omega) (show j * 4 = (j) * 4 by omega) (by decide) (X := X0) (by exact HX0.out) (by omega) (by omega) ZL0.out hW30 EX0.out g8 o8
    have HO1 := hid MK0.1
    have HK1 := hid (HW.out.trans MK0.2)
    obtain ⟨X1, hX1⟩ : ∃ X : Int, X0 + 1 + 1 + 1 + (zl0 : Int) = X := ⟨_, rfl⟩
    rw [hX1]
    have HX1 := hid (show k + sumN (es.take (j + 1)) = X1 by
     have s1 := St0.out
     have s2 := HX0.out
     have s3 := ZL0.out
     unfold nmI at s1
     rw [s3] at s1
     omega)
    have hXb1 : 0 ≤ X1 ∧ X1 ≤ 440000000 := by omega
    clear MK0 o8 g8 hX1 R30 hW30 HW HO
    go_wp2_with fail
    go_roundw
    case rel => exact ⟨j + 1, by omega, by go_num, by rw [HX1.out], HO1, HK1⟩
    case measure => simp [intOf]; omega
  · have hlt' : ¬ (j : Int) < (n : Int) := by omega
    go_wp2
    go_ret
    have e1 := HO.out
    rw [Qs_all k es (by omega)] at e1
    exact ⟨by rw [List.take_of_length_le (by omega)]; rfl, e1, HW.out⟩
set_option maxHeartbeats 6400000 in
theorem markSpanS {lo hi : Nat} {a : Option Addr} {n : Nat} (c : Nat) {es : List Im} {xs : List Value} {w : World} (k : Int) (h : OwnX 74 8 w lo hi (.slice a n c) n es xs) (hl : es.length = n * 2) (hn : n ≤ 2097152) (hs : sumI es ≤ 2097152) (hk0 : 0 ≤ k) (hk1 : k ≤ 400000000) :
 Calls Tryz.prog 59 #[.slice a n c, .int .i64 k] w fun e w' => e = .returned (.int .i64 (k + sumN es)) ∧ OwnX 74 8 w' lo hi (.slice a n c) n (mkIs k es) xs ∧ Keeps (blkX (.slice a n c) xs) w w' := by
 have hsb : sumN es ≤ 30000000 := by have := sumN_eq es; omega
 have HO := hid h
 clear h
 go_enter Tryz.func59, Tryz.ntmps59
 go_wp2
 go_loopw [1, 5] (fun x i wr => ∃ j : Nat, j ≤ n ∧ i = .int .i64 j ∧ x = .int .i64 (k + sumN (es.take (j * 2))) ∧ Hid (OwnX 74 8 wr lo hi (.slice a n c) n (Qs k es (j * 2)) xs) ∧ Hid (Keeps (blkX (.slice a n c) xs) w wr)) (fun _ i _ => n - (intOf i).toNat)
 case atStart => exact ⟨0, Nat.zero_le _, rfl, by simp [sumN], hid (by rw [Nat.zero_mul]; rw [Qs_zero]; exact HO.out), hid (Keeps.refl _ _)⟩
 case round =>
  clear HO
  obtain ⟨j, hj, rfl, rfl, HO, HW⟩ := hrel
  by_cases hlt : j < n
  · have hlt' : (j : Int) < (n : Int) := by omega
    have hj0 : (0 : Int) ≤ (j : Int) := by omega
    obtain ⟨X0, hX0⟩ : ∃ X : Int, k + sumN (es.take (j * 2)) = X := ⟨_, rfl⟩
    have hX : 0 ≤ X0 ∧ X0 ≤ 430000000 := by have := sumN_take es (j * 2); omega
    have St0 := hid (sumN_step es (j * 2) (by omega))
    have hz0 := sumI_at es (j * 2) (by omega)
    obtain ⟨g0, cc0, a10, c10, ev0, ex0, bx0, ro0, fz0⟩ := HO.out.box (i := j * 2) (by rw [Qs_len]; omega)
    rw [Qs_at k es (j * 2) (by omega)] at ex0 bx0 ro0
    obtain ⟨zl0, hzl0⟩ : ∃ zl, (es.getD (j * 2) im0).Z.length = zl := ⟨_, rfl⟩
    rw [hzl0] at ex0 bx0 ro0 hz0
    have hzy0 : zl0 ≤ 2097152 := by omega
    obtain ⟨rfl, -, rfl⟩ : a = some ⟨g0, 0, none⟩ ∧ n = n ∧ c = cc0 := by injection ev0 with e1 e2 e3; exact ⟨e1, rfl, e3⟩
    obtain ⟨x0, x1, x2, x3⟩ := bx0
    rw [show j * 2 * 4 = j * 8 by omega] at x0 x1 x2 x3
    have y0 := fz0 (j * 8)
    have y1 := fz0 (j * 8 + 1)
    have y2 := fz0 (j * 8 + 2)
    have hst := fun w a z m => run_store Tryz.prog w a (.float .f64 (floatOfInt .f64 z)) m rfl
    have R30 := hid (show (((wr.setCell ⟨g0, j * 8, none⟩ (.int .i64 X0)).setCell ⟨g0, j * 8 + 1, none⟩ (.int .i64 (X0 + 1))).setCell ⟨g0, j * 8 + 2, none⟩ (.float .f64 (floatOfInt .f64 (X0 + 1 + 1)))).ownsRow lo 5 1 (.slice a10 zl0 c10) zl0 _ from by
     have S0 := HO.out.row.stored (j * 8) (.int .i64 X0)
     have S1 := S0.1.stored (j * 8 + 1) (.int .i64 (X0 + 1))
     have S2 := S1.1.stored (j * 8 + 2) (.float .f64 (floatOfInt .f64 (X0 + 1 + 1)))
     have r0 := ro0.kept S0.2 (owns_ne ro0 HO.out.row (by decide))
     have r1 := r0.kept S1.2 (owns_ne r0 S0.1 (by decide))
     exact r1.kept S2.2 (owns_ne r1 S1.1 (by decide)))
    have EX0 := hid ex0
    have ZL0 := hid hzl0
    have HX0 := hid hX0
    have WE := ((wr.setCell ⟨g0, j * 8, none⟩ (.int .i64 X0)).setCell ⟨g0, j * 8 + 1, none⟩ (.int .i64 (X0 + 1))).setCell ⟨g0, j * 8 + 2, none⟩ (.float .f64 (floatOfInt .f64 (X0 + 1 + 1)))
    clear ex0 ro0 fz0 ev0 hzl0 WE hX0 hz0
    rw [HX0.out]
    go_wp2_with fail
    clear x0 x1 x2 x3 y0 y1 y2 hst
    obtain ⟨W30, hW30⟩ : ∃ W, ((wr.setCell ⟨g0, j * 8, none⟩ (.int .i64 X0)).setCell ⟨g0, j * 8 + 1, none⟩ (.int .i64 (X0 + 1))).setCell ⟨g0, j * 8 + 2, none⟩ (.float .f64 (floatOfInt .f64 (X0 + 1 + 1))) = W := ⟨_, rfl⟩
    rw [hW30] at R30 ⊢
    refine (markByteS_any (X0 + 1 + 1 + 1) (by omega) (by omega) (by omega) R30.out).mono ?_
    rintro e W1 ⟨rfl, o8, g8⟩
    have MK0 := HO.out.mark k (i := j * 2) (by omega) (show j * 8 = (j * 2) * 4 by omega) (by decide) (X := X0) (by exact HX0.out) (by omega) (by omega) ZL0.out hW30 EX0.out g8 o8
    have HO1 := hid MK0.1
    have HK1 := hid (HW.out.trans MK0.2)
    obtain ⟨X1, hX1⟩ : ∃ X : Int, X0 + 1 + 1 + 1 + (zl0 : Int) = X := ⟨_, rfl⟩
    rw [hX1]
    have HX1 := hid (show k + sumN (es.take (j * 2 + 1)) = X1 by
     have s1 := St0.out
     have s2 := HX0.out
     have s3 := ZL0.out
     unfold nmI at s1
     rw [s3] at s1
     omega)
    have hXb1 : 0 ≤ X1 ∧ X1 ≤ 440000000 := by omega
    clear MK0 o8 g8 hX1 R30 hW30 HW HO
    have St1 := hid (sumN_step es (j * 2 + 1) (by omega))
    have hz1 := sumI_at es (j * 2 + 1) (by omega)
    obtain ⟨g1, cc1, a11, c11, ev1, ex1, bx1, ro1, fz1⟩ := HO1.out.box (i := j * 2 + 1) (by rw [Qs_len]; omega)
    rw [Qs_at k es (j * 2 + 1) (by omega)] at ex1 bx1 ro1
    obtain ⟨zl1, hzl1⟩ : ∃ zl, (es.getD (j * 2 + 1) im0).Z.length = zl := ⟨_, rfl⟩
    rw [hzl1] at ex1 bx1 ro1 hz1
    have hzy1 : zl1 ≤ 2097152 := by omega
    obtain rfl : g0 = g1 := by injection ev1 with e1 e2 e3; injection e1 with e1; injection e1
    obtain ⟨x0, x1, x2, x3⟩ := bx1
    rw [show (j * 2 + 1) * 4 = j * 8 + 4 by omega] at x0 x1 x2 x3
    have y0 := fz1 (j * 8 + 4)
    have y1 := fz1 (j * 8 + 4 + 1)
    have y2 := fz1 (j * 8 + 4 + 2)
    have hst := fun w a z m => run_store Tryz.prog w a (.float .f64 (floatOfInt .f64 z)) m rfl
    have R31 := hid (show (((W1.setCell ⟨g0, j * 8 + 4, none⟩ (.int .i64 X1)).setCell ⟨g0, j * 8 + 4 + 1, none⟩ (.int .i64 (X1 + 1))).setCell ⟨g0, j * 8 + 4 + 2, none⟩ (.float .f64 (floatOfInt .f64 (X1 + 1 + 1)))).ownsRow lo 5 1 (.slice a11 zl1 c11) zl1 _ from by
     have S0 := HO1.out.row.stored (j * 8 + 4) (.int .i64 X1)
     have S1 := S0.1.stored (j * 8 + 4 + 1) (.int .i64 (X1 + 1))
     have S2 := S1.1.stored (j * 8 + 4 + 2) (.float .f64 (floatOfInt .f64 (X1 + 1 + 1)))
     have r0 := ro1.kept S0.2 (owns_ne ro1 HO1.out.row (by decide))
     have r1 := r0.kept S1.2 (owns_ne r0 S0.1 (by decide))
     exact r1.kept S2.2 (owns_ne r1 S1.1 (by decide)))
    have EX1 := hid ex1
    have ZL1 := hid hzl1
    skip
    have WE := ((W1.setCell ⟨g0, j * 8 + 4, none⟩ (.int .i64 X1)).setCell ⟨g0, j * 8 + 4 + 1, none⟩ (.int .i64 (X1 + 1))).setCell ⟨g0, j * 8 + 4 + 2, none⟩ (.float .f64 (floatOfInt .f64 (X1 + 1 + 1)))
    clear ex1 ro1 fz1 ev1 hzl1 WE hz1
    skip
    go_wp2_with fail
    clear x0 x1 x2 x3 y0 y1 y2 hst
    obtain ⟨W31, hW31⟩ : ∃ W, ((W1.setCell ⟨g0, j * 8 + 4, none⟩ (.int .i64 X1)).setCell ⟨g0, j * 8 + 4 + 1, none⟩ (.int .i64 (X1 + 1))).setCell ⟨g0, j * 8 + 4 + 2, none⟩ (.float .f64 (floatOfInt .f64 (X1 + 1 + 1))) = W := ⟨_, rfl⟩
    rw [hW31] at R31 ⊢
    refine (markByteS_any (X1 + 1 + 1 + 1) (by omega) (by omega) (by omega) R31.out).mono ?_
    rintro e W2 ⟨rfl, o8, g8⟩
    have MK1 := HO1.out.mark k (i := j * 2 + 1) (by omega) (show j * 8 + 4 = (j * 2 + 1) * 4 by omega) (by decide) (X := X1) (by exact HX1.out) (by omega) (by omega) ZL1.out hW31 EX1.out g8 o8
    have HO2 := hid MK1.1
    have HK2 := hid (HK1.out.trans MK1.2)
    obtain ⟨X2, hX2⟩ : ∃ X : Int, X1 + 1 + 1 + 1 + (zl1 : Int) = X := ⟨_, rfl⟩
    rw [hX2]
    have HX2 := hid (show k + sumN (es.take (j * 2 + 1 + 1)) = X2 by
     have s1 := St1.out
     have s2 := HX1.out
     have s3 := ZL1.out
     unfold nmI at s1
     rw [s3] at s1
     omega)
    have hXb2 : 0 ≤ X2 ∧ X2 ≤ 450000000 := by omega
    clear MK1 o8 g8 hX2 R31 hW31 HO1 HK1
    go_wp2_with fail
    go_roundw
    case rel => exact ⟨j + 1, by omega, by go_num, by rw [show (j + 1) * 2 = j * 2 + 1 + 1 by omega, HX2.out], hid (by rw [show (j + 1) * 2 = j * 2 + 1 + 1 by omega]; exact HO2.out), HK2⟩
    case measure => simp [intOf]; omega
  · have hlt' : ¬ (j : Int) < (n : Int) := by omega
    go_wp2
    go_ret
    have e1 := HO.out
    rw [Qs_all k es (by omega)] at e1
    exact ⟨by rw [List.take_of_length_le (by omega)]; rfl, e1, HW.out⟩
end Go.Proofs.YtnbpblephmjfnaaGreat
/- The contracts of the laws' markSpan, heldSpan, markTrackS, heldTrackS. Conditions: tracks of at most 2^21 bytes together. -/

namespace Go.Proofs.YtnbpblephmjfnaaGreat
open Go.RowKit
set_option maxRecDepth 100000
def mk2 : Int → List (Im × Im) → List (Im × Im)
 | _, [] => []
 | k, p :: ps => (mkI1 k p.1, mkI1 (k + nmI p.1) p.2) :: mk2 (k + nmI p.1 + nmI p.2) ps
theorem fl2_mk2 : ∀ (k : Int) (l : List (Im × Im)), fl2 (mk2 k l) = mkIs k (fl2 l)
 | _, [] => rfl
 | k, p :: ps => by simp only [mk2, fl2, mkIs, fl2_mk2]
theorem mk2_length : ∀ (k : Int) (l : List (Im × Im)), (mk2 k l).length = l.length
 | _, [] => rfl
 | k, p :: ps => by simp [mk2, mk2_length]
def blkA (v : Value) (ms : List Mt) (b : Nat) : Prop := v.ownBlock = some b ∨ ∃ i, blkT (ms.getD i mt0) b
theorem row_off {w : World} {lo hi : Nat} {t : TypeId} {s : Nat} {v : Value} {n : Nat} {es : List Im} {xs : List Value} (h : OwnX t s w lo hi v n es xs) {base : Nat} {e : TypeId} {s' n' : Nat} {v' : Value} {ys : List Value} (o : w.ownsRow base e s' v' n' ys) (h1 : t ≠ e) (h5 : (5 : TypeId) ≠ e) {b : Nat} (hb : v'.ownBlock = some b) : ¬ blkX v xs b := by
 intro hc
 rcases hc with hc | hc
 · exact own_type h.row o h1 hc hb
 · obtain ⟨i, hi'⟩ := blk_txt hc
   exact own_type (h.txt.own i) o h5 hi' hb
end Go.Proofs.YtnbpblephmjfnaaGreat
/- Tracks that are right, plain, and the contract of the specification's TracksOk. Conditions: texts of at most 2^21 bytes. -/

namespace Go.Proofs.YtnbpblephmjfnaaGreat
open Go.RowKit
set_option maxRecDepth 100000
def trackB (t : Tk) : Bool := decide (1 ≤ t.xid ∧ t.xid ≤ 400) && (decide (1 ≤ t.begun) && (decide (t.ended = 0 ∨ t.begun < t.ended) && (decide (t.rs.length ≤ 6) && (decide (t.all = false ∨ t.rs.length = 0) && (decide (t.ws.length ≤ 200) && (t.rs.all spB && t.ws.all okM))))))
def okTs (ts : List Tk) : Prop := ts.length ≤ 64 ∧ ∀ i, i < ts.length → trackB (ts.getD i tk0) = true ∧ ∀ k, k < i → (ts.getD k tk0).xid ≠ (ts.getD i tk0).xid
open Classical in
noncomputable def tracksB (ts : List Tk) : Bool := decide (okTs ts)
theorem all_sp {rs : List (Im × Im)} (h : ∀ i, i < rs.length → spB (rs.getD i sp0) = true) : rs.all spB = true := by
 rw [List.all_eq_true]
 intro p hp
 obtain ⟨i, hi, rfl⟩ := List.getElem_of_mem hp
 have := h i hi
 rwa [show rs.getD i sp0 = rs[i] by simp [List.getD, hi]] at this
theorem all_sp_no {rs : List (Im × Im)} {i : Nat} (hi : i < rs.length) (h : spB (rs.getD i sp0) = false) : rs.all spB = false := by
 rw [List.all_eq_false]
 refine ⟨rs[i], List.getElem_mem hi, ?_⟩
 rw [show rs.getD i sp0 = rs[i] by simp [List.getD, hi]] at h
 rw [h]; simp
theorem all_im {ws : List Im} (h : ∀ i, i < ws.length → okM (ws.getD i im0) = true) : ws.all okM = true := by
 rw [List.all_eq_true]
 intro p hp
 obtain ⟨i, hi, rfl⟩ := List.getElem_of_mem hp
 have := h i hi
 rwa [show ws.getD i im0 = ws[i] by simp [List.getD, hi]] at this
theorem all_im_no {ws : List Im} {i : Nat} (hi : i < ws.length) (h : okM (ws.getD i im0) = false) : ws.all okM = false := by
 rw [List.all_eq_false]
 refine ⟨ws[i], List.getElem_mem hi, ?_⟩
 rw [show ws.getD i im0 = ws[i] by simp [List.getD, hi]] at h
 rw [h]; simp
def smT (ts : List Tk) : Prop := ∀ i, (∀ j, ((fl2 (ts.getD i tk0).rs).getD j im0).Z.length ≤ 2097152) ∧ (∀ j, ((ts.getD i tk0).ws.getD j im0).Z.length ≤ 2097152)
end Go.Proofs.YtnbpblephmjfnaaGreat
/- Boxes of spans and tracks, and small facts for the walks of chapter 13's laws. No statement of its own; no conditions. -/



namespace Go.Proofs.YtnbpblephmjfnaaGreat
open Go.RowKit
set_option maxRecDepth 100000
structure BoxS (w : World) (g : Nat) (K N : Int) (f : Nat) (x : Value) (K' N' : Int) (f' : Nat) (x' : Value) : Prop where
 c0 : w.cell? ⟨g, 0, none⟩ = some (.int .i64 K)
 c1 : w.cell? ⟨g, 1, none⟩ = some (.int .i64 N)
 c2 : w.cell? ⟨g, 2, none⟩ = some (.float .f64 f)
 c3 : w.cell? ⟨g, 3, none⟩ = some x
 c4 : w.cell? ⟨g, 4, none⟩ = some (.int .i64 K')
 c5 : w.cell? ⟨g, 5, none⟩ = some (.int .i64 N')
 c6 : w.cell? ⟨g, 6, none⟩ = some (.float .f64 f')
 c7 : w.cell? ⟨g, 7, none⟩ = some x'
theorem BoxS.row {w : World} {g : Nat} {K N : Int} {f : Nat} {x : Value} {K' N' : Int} {f' : Nat} {x' : Value} {t : TypeId} (h : w.heap[g]? = some (.cells #[.int .i64 K, .int .i64 N, .float .f64 f, x, .int .i64 K', .int .i64 N', .float .f64 f', x'] t)) : BoxS w g K N f x K' N' f' x' := by
 refine ⟨?_, ?_, ?_, ?_, ?_, ?_, ?_, ?_⟩ <;> (rw [cell_of_row _ _ _ _ _ _ h]; rfl)
theorem BoxS.below {w w' : World} {g : Nat} {K N : Int} {f : Nat} {x : Value} {K' N' : Int} {f' : Nat} {x' : Value} (q : BoxS w g K N f x K' N' f' x') {B : Nat} (hb : Below B w w') (hB : w.heap.size ≤ B) : BoxS w' g K N f x K' N' f' x' := by
 have hl := World.block_lt_of_cell? w _ q.c0
 simp only at hl
 have e := hb.block g (by omega)
 exact ⟨(World.cell?_of_block (w := w) (a := ⟨g, 0, none⟩) e).trans q.c0, (World.cell?_of_block (w := w) (a := ⟨g, 1, none⟩) e).trans q.c1, (World.cell?_of_block (w := w) (a := ⟨g, 2, none⟩) e).trans q.c2, (World.cell?_of_block (w := w) (a := ⟨g, 3, none⟩) e).trans q.c3, (World.cell?_of_block (w := w) (a := ⟨g, 4, none⟩) e).trans q.c4, (World.cell?_of_block (w := w) (a := ⟨g, 5, none⟩) e).trans q.c5, (World.cell?_of_block (w := w) (a := ⟨g, 6, none⟩) e).trans q.c6, (World.cell?_of_block (w := w) (a := ⟨g, 7, none⟩) e).trans q.c7⟩
structure BoxK (w : World) (g : Nat) (xi be en : Int) (al : Bool) (x y : Value) (inn ou : Bool) : Prop where
 c0 : w.cell? ⟨g, 0, none⟩ = some (.int .i64 xi)
 c1 : w.cell? ⟨g, 1, none⟩ = some (.int .i64 be)
 c2 : w.cell? ⟨g, 2, none⟩ = some (.int .i64 en)
 c3 : w.cell? ⟨g, 3, none⟩ = some (.bool al)
 c4 : w.cell? ⟨g, 4, none⟩ = some x
 c5 : w.cell? ⟨g, 5, none⟩ = some y
 c6 : w.cell? ⟨g, 6, none⟩ = some (.bool inn)
 c7 : w.cell? ⟨g, 7, none⟩ = some (.bool ou)
theorem BoxK.row {w : World} {g : Nat} {xi be en : Int} {al : Bool} {x y : Value} {inn ou : Bool} {t : TypeId} (h : w.heap[g]? = some (.cells #[.int .i64 xi, .int .i64 be, .int .i64 en, .bool al, x, y, .bool inn, .bool ou] t)) : BoxK w g xi be en al x y inn ou := by
 refine ⟨?_, ?_, ?_, ?_, ?_, ?_, ?_, ?_⟩ <;> (rw [cell_of_row _ _ _ _ _ _ h]; rfl)
theorem BoxK.below {w w' : World} {g : Nat} {xi be en : Int} {al : Bool} {x y : Value} {inn ou : Bool} (q : BoxK w g xi be en al x y inn ou) {B : Nat} (hb : Below B w w') (hB : w.heap.size ≤ B) : BoxK w' g xi be en al x y inn ou := by
 have hl := World.block_lt_of_cell? w _ q.c0
 simp only at hl
 have e := hb.block g (by omega)
 exact ⟨(World.cell?_of_block (w := w) (a := ⟨g, 0, none⟩) e).trans q.c0, (World.cell?_of_block (w := w) (a := ⟨g, 1, none⟩) e).trans q.c1, (World.cell?_of_block (w := w) (a := ⟨g, 2, none⟩) e).trans q.c2, (World.cell?_of_block (w := w) (a := ⟨g, 3, none⟩) e).trans q.c3, (World.cell?_of_block (w := w) (a := ⟨g, 4, none⟩) e).trans q.c4, (World.cell?_of_block (w := w) (a := ⟨g, 5, none⟩) e).trans q.c5, (World.cell?_of_block (w := w) (a := ⟨g, 6, none⟩) e).trans q.c6, (World.cell?_of_block (w := w) (a := ⟨g, 7, none⟩) e).trans q.c7⟩
structure BoxJ (w : World) (g : Nat) (K N : Int) (f : Nat) (x : Value) : Prop where
 c0 : w.cell? ⟨g, 0, none⟩ = some (.int .i64 K)
 c1 : w.cell? ⟨g, 1, none⟩ = some (.int .i64 N)
 c2 : w.cell? ⟨g, 2, none⟩ = some (.float .f64 f)
 c3 : w.cell? ⟨g, 3, none⟩ = some x
theorem BoxJ.row {w : World} {g : Nat} {K N : Int} {f : Nat} {x : Value} {t : TypeId} (h : w.heap[g]? = some (.cells #[.int .i64 K, .int .i64 N, .float .f64 f, x] t)) : BoxJ w g K N f x := by
 refine ⟨?_, ?_, ?_, ?_⟩ <;> (rw [cell_of_row _ _ _ _ _ _ h]; rfl)
theorem BoxJ.below {w w' : World} {g : Nat} {K N : Int} {f : Nat} {x : Value} (q : BoxJ w g K N f x) {B : Nat} (hb : Below B w w') (hB : w.heap.size ≤ B) : BoxJ w' g K N f x := by
 have hl := World.block_lt_of_cell? w _ q.c0
 simp only at hl
 have e := hb.block g (by omega)
 exact ⟨(World.cell?_of_block (w := w) (a := ⟨g, 0, none⟩) e).trans q.c0, (World.cell?_of_block (w := w) (a := ⟨g, 1, none⟩) e).trans q.c1, (World.cell?_of_block (w := w) (a := ⟨g, 2, none⟩) e).trans q.c2, (World.cell?_of_block (w := w) (a := ⟨g, 3, none⟩) e).trans q.c3⟩
theorem getD_le_sumI (es : List Im) (i : Nat) : (es.getD i im0).Z.length ≤ sumI es := by
 by_cases h : i < es.length
 · exact sumI_at es i h
 · rw [List.getD_eq_getElem?_getD, List.getElem?_eq_none (by omega)]; simp [im0]
theorem szT_at (ts : List Tk) (i : Nat) : szT (ts.getD i tk0) ≤ sumT ts := by
 by_cases h : i < ts.length
 · exact sumT_at ts i h
 · rw [List.getD_eq_getElem?_getD, List.getElem?_eq_none (by omega)]; simp [tk0, szT, fl2, sumI]
theorem smT_of {ts : List Tk} (h : sumT ts ≤ 1048576) : smT ts := by
 intro i
 have h1 := szT_at ts i
 unfold szT at h1
 exact ⟨fun j => by have := getD_le_sumI (fl2 (ts.getD i tk0).rs) j; omega, fun j => by have := getD_le_sumI (ts.getD i tk0).ws j; omega⟩
end Go.Proofs.YtnbpblephmjfnaaGreat
