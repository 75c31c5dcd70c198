/- Texts of this proof in one: Fj13 Fk13 Fl13. -/
import Derived.Test.YtnhlfkffllbpiaaFh13
import Derived.Deep.MidRow
import Derived.Deep.RegionLaw
import Derived.Lib.SliceRun
/- A row of tracks in pieces, changed in place; the library's Delete over tracks. Conditions: at most 2^21 tracks. -/




namespace Go.Proofs.Ytnhlfkffllbpiaa
open Go.RowKit
set_option maxRecDepth 100000

def StopG (p : Prop) : Prop := p
theorem stopG {p : Prop} (h : StopG p) : p := h
theorem Keeps.below {X : Nat → Prop} {B : Nat} {w0 w w' : World} (h0 : Below B w0 w) (h : Keeps X w w') (hX : ∀ k, X k → B ≤ k) (hB : B ≤ w.heap.size) : Below B w0 w' :=
  ⟨h.os.trans h0.os, h.tape.trans h0.tape, h.output.trans h0.output, Nat.le_trans h0.size h.size, fun k hk => (h.block k (by omega) (fun x => by have := hX k x; omega)).trans (h0.block k hk)⟩
theorem Keeps.cells (g : Nat) : ∀ (vs : List Value) (o : Nat) (w : World), Keeps (fun b => b = g) w (w.setCells g o vs)
  | [], _, w => Keeps.refl _ w
  | v :: vs, o, w => (Keeps.set (X := fun b => b = g) w (p := ⟨g, o, none⟩) rfl v).trans (Keeps.cells g vs (o + 1) _)
theorem size_setCells13 (g : Nat) : ∀ (vs : List Value) (o : Nat) (w : World), (w.setCells g o vs).heap.size = w.heap.size
  | [], _, _ => rfl
  | _ :: vs, o, _ => (size_setCells13 g vs (o + 1) _).trans (set_size13 _ _ _)
theorem heapL_setCells (g : Nat) (t : TypeId) : ∀ (vs : List Value) (o : Nat) (w : World) (cs : List Value), o + vs.length ≤ cs.length → w.heap[g]? = some (.cells cs.toArray t) → (w.setCells g o vs).heap[g]? = some (.cells (cs.take o ++ vs ++ cs.drop (o + vs.length)).toArray t)
  | [], o, w, cs, _, h => by simpa [World.setCells] using h
  | v :: vs, o, w, cs, hl, h => by
    simp only [List.length_cons] at hl
    have h1 := heap_setCell_same w g o cs.toArray t v h
    rw [List.setIfInBounds_toArray] at h1
    have h2 := heapL_setCells g t vs (o + 1) _ (cs.set o v) (by rw [List.length_set]; omega) h1
    show (World.setCells _ g (o + 1) vs).heap[g]? = _
    rw [h2]
    congr 3
    rw [List.drop_set_of_lt (by omega), List.take_set, List.take_succ_eq_append_getElem (by omega), List.set_append_right _ _ (by rw [List.length_take]; omega)]
    rw [List.length_take, show o - min o cs.length = 0 by omega, List.set_cons_zero, List.append_assoc, List.append_assoc]
    simp only [List.cons_append, List.nil_append, List.append_assoc, List.length_cons]
    rw [show o + 1 + vs.length = o + (vs.length + 1) by omega]
/-- The cells of tracks, each with the place of its memory. -/
def cP (ps : List (Tk × Mt)) : List Value := (ps.map (fun p => cellsT1 p.1 p.2)).flatten
theorem cP_app (a b : List (Tk × Mt)) : cP (a ++ b) = cP a ++ cP b := by simp [cP]
theorem cP_cons (p : Tk × Mt) (b : List (Tk × Mt)) : cP (p :: b) = cellsT1 p.1 p.2 ++ cP b := by simp [cP]
theorem cP_len : ∀ ps : List (Tk × Mt), (cP ps).length = ps.length * 8
  | [] => rfl
  | p :: ps => by rw [cP_cons, List.length_append, cP_len ps]; simp [cellsT1]; omega
theorem cP_take (ps : List (Tk × Mt)) {k : Nat} (hk : k ≤ ps.length) : (cP ps).take (k * 8) = cP (ps.take k) := by
  have e : cP ps = cP (ps.take k) ++ cP (ps.drop k) := by rw [← cP_app, List.take_append_drop]
  rw [e, List.take_append_of_le_length (by rw [cP_len, List.length_take]; omega), List.take_of_length_le (by rw [cP_len, List.length_take]; omega)]
theorem cP_drop (ps : List (Tk × Mt)) {k : Nat} (hk : k ≤ ps.length) : (cP ps).drop (k * 8) = cP (ps.drop k) := by
  have e : cP ps = cP (ps.take k) ++ cP (ps.drop k) := by rw [← cP_app, List.take_append_drop]
  have hl : (cP (ps.take k)).length = k * 8 := by rw [cP_len, List.length_take]; omega
  rw [e, ← hl, List.drop_left]
theorem cellsT_cP : ∀ (ts : List Tk) (ms : List Mt), ms.length = ts.length → cellsT ts ms = cP (ts.zip ms)
  | [], [], _ => rfl
  | t :: ts, m :: ms, h => by rw [cellsT_cons, List.zip_cons_cons, cP_cons, cellsT_cP ts ms (by simpa using h)]
theorem cP_cellsT : ∀ ps : List (Tk × Mt), cP ps = cellsT (ps.map (·.1)) (ps.map (·.2))
  | [] => rfl
  | p :: ps => by rw [cP_cons, List.map_cons, List.map_cons, cellsT_cons, cP_cellsT ps]
/-- Tracks in memory, each with the place of its memory. -/
structure BandsP (w : World) (lo hi : Nat) (ps : List (Tk × Mt)) : Prop where
  own : ∀ p ∈ ps, OwnT1 w lo hi p.2 p.1
  apart : ps.Pairwise (fun p q => ∀ b, blkT p.2 b → ¬ blkT q.2 b)
theorem BandsP.sub {w : World} {lo hi : Nat} {ps qs : List (Tk × Mt)} (h : BandsP w lo hi ps) (hs : qs.Sublist ps) : BandsP w lo hi qs := ⟨fun p hp => h.own p (hs.subset hp), h.apart.sublist hs⟩
theorem BandsT.pairs {w : World} {lo hi : Nat} {ms : List Mt} {ts : List Tk} (h : BandsT w lo hi ms ts) : BandsP w lo hi (ts.zip ms) := by
  have hz : ∀ i (hi : i < (ts.zip ms).length), (ts.zip ms)[i] = (ts.getD i tk0, ms.getD i mt0) := fun i hi => by
    rw [List.length_zip, h.len, Nat.min_self] at hi
    rw [List.getElem_zip]
    simp [List.getD, hi, h.len]
  have hl : (ts.zip ms).length = ts.length := by rw [List.length_zip, h.len, Nat.min_self]
  refine ⟨fun p hp => ?_, ?_⟩
  · obtain ⟨i, hi, rfl⟩ := List.getElem_of_mem hp
    rw [hz i hi]
    exact h.own i (by omega)
  · rw [List.pairwise_iff_getElem]
    intro i j hi hj hij b hb
    rw [hz i hi] at hb
    rw [hz j hj]
    exact h.apart i j hij (by omega) b hb
theorem BandsP.t {w : World} {lo hi : Nat} {ps : List (Tk × Mt)} (h : BandsP w lo hi ps) : BandsT w lo hi (ps.map (·.2)) (ps.map (·.1)) := by
  have e1 : ∀ i (hi : i < ps.length), (ps.map (·.1)).getD i tk0 = (ps[i]).1 := fun i hi => by simp [List.getD, hi]
  have e2 : ∀ i (hi : i < ps.length), (ps.map (·.2)).getD i mt0 = (ps[i]).2 := fun i hi => by simp [List.getD, hi]
  refine ⟨by simp, fun i hi => ?_, fun i j hij hj b hb => ?_⟩
  · rw [List.length_map] at hi
    rw [e1 i hi, e2 i hi]
    exact h.own _ (List.getElem_mem hi)
  · rw [List.length_map] at hj
    rw [e2 i (by omega)] at hb
    rw [e2 j hj]
    exact (List.pairwise_iff_getElem.1 h.apart) i j (by omega) hj hij b hb
/-- The row of tracks, read as pairs; and back. -/
theorem OwnT.pairs {w : World} {lo hi : Nat} {v : Value} {ts : List Tk} (h : OwnT w lo hi v ts) : ∃ ps : List (Tk × Mt), ps.map (·.1) = ts ∧ w.ownsRow lo 46 8 v ts.length (cP ps) ∧ BandsP w lo hi ps := by
  obtain ⟨ms, o, hb⟩ := h.b
  have hp := hb.pairs
  refine ⟨ts.zip ms, ?_, ?_, hp⟩
  · rw [List.map_fst_zip (by rw [hb.len]; exact Nat.le_refl _)]
  · rw [← cellsT_cP ts ms hb.len]; exact o
theorem BandsP.own_t {w : World} {lo hi : Nat} {v : Value} {ps : List (Tk × Mt)} (h : BandsP w lo hi ps) (o : w.ownsRow lo 46 8 v ps.length (cP ps)) (ht : ∀ g, v.ownBlock = some g → g < hi) : OwnT w lo hi v (ps.map (·.1)) :=
  h.t.t (by rw [List.length_map, ← cP_cellsT]; exact o) ht
theorem BandsP.keep {X : Nat → Prop} {w w' : World} {lo hi : Nat} {ps : List (Tk × Mt)} (h : BandsP w lo hi ps) (g : Keeps X w w') (hne : ∀ p ∈ ps, ∀ k, blkT p.2 k → ¬ X k) : BandsP w' lo hi ps := ⟨fun p hp => (h.own p hp).keep g (hne p hp), h.apart⟩
theorem BandsP.off {w w' : World} {lo hi : Nat} {ps : List (Tk × Mt)} (h : BandsP w lo hi ps) {base g c n : Nat} {xs : List Value} (o : w.ownsRow base 46 8 (.slice (some ⟨g, 0, none⟩) n c) n xs) (k : Keeps (fun b => b = g) w w') : BandsP w' lo hi ps :=
  h.keep k (fun p hp b hb e => by subst e; exact (h.own p hp).off o (by decide) (by decide) (by decide) hb rfl)
/-- The whole block of a row. -/
theorem owns_block {w : World} {lo g n c : Nat} {xs : List Value} (o : w.ownsRow lo 46 8 (.slice (some ⟨g, 0, none⟩) n c) n xs) : ∃ rest : List Value, w.heap[g]? = some (.cells (xs ++ rest).toArray 46) ∧ xs.length = n * 8 ∧ (xs ++ rest).length = c * 8 ∧ n ≤ c ∧ c ≤ maxLen ∧ lo ≤ g := by
  rcases o.2 with ⟨e, _⟩ | ⟨g', cap, cur, e, h1, h2, h3, h4, h5, h6⟩
  · cases e
  · cases e
    refine ⟨cur.toList.drop (n * 8), ?_, o.1, ?_, h3, h4, h1⟩
    · rw [← h6, List.take_append_drop]; exact h2
    · rw [← h6, List.take_append_drop]; simpa using h5
theorem block_owns {w : World} {lo g n c : Nat} {xs rest : List Value} (h : w.heap[g]? = some (.cells (xs ++ rest).toArray 46)) (hx : xs.length = n * 8) (hr : (xs ++ rest).length = c * 8) (hn : n ≤ c) (hc : c ≤ maxLen) (hl : lo ≤ g) : w.ownsRow lo 46 8 (.slice (some ⟨g, 0, none⟩) n c) n xs :=
  ⟨hx, .inr ⟨g, c, _, rfl, hl, h, hn, hc, by simpa using hr, by rw [← hx]; simp⟩⟩
theorem block_cell {w : World} {g : Nat} {cs : List Value} {t : TypeId} (h : w.heap[g]? = some (.cells cs.toArray t)) (j : Nat) : w.cell? ⟨g, j, none⟩ = cs[j]? := by rw [cell_of_row _ _ _ _ _ _ h]; simp
theorem block_there {w : World} {g : Nat} {cs : List Value} {t : TypeId} (h : w.heap[g]? = some (.cells cs.toArray t)) {o n : Nat} (hn : o + n ≤ cs.length) : w.there g o n := fun j hj => ⟨by rw [block_cell h, List.getElem?_eq_getElem (by omega)]; rfl, frozen_of_row _ _ _ _ _ h⟩

section
variable {P : Program}
theorem run_clear_rows (w : World) (t e ty : TypeId) (z : Value) (ht : P.underlying t = some (.slice e)) (hv : ∀ w, (zeroValue e).run P w = .ok z w) (b o n c : Nat) (hn : 0 < n) (zs : List Value) (hz : (Builtin.zeroCells z.cells n).toList = zs) (h1 : ∀ v ∈ zs, v.oneCell' = true) (hth : w.there b o zs.length) :
    (Builtin.clear_ #[t] ty #[.slice (some ⟨b, o, none⟩) n c]).run P w = .ok (.tuple #[]) (w.setCells b o zs) := by
  have hst := run_storeCells_cells (P := P) b o zs 0 w (by simpa using fun j hj => (hth j hj).1) (by simpa using fun j hj => (hth j hj).2) h1
  simp only [Nat.add_zero] at hst
  obtain ⟨m, rfl⟩ : ∃ m, n = m + 1 := ⟨n - 1, by omega⟩
  simp [Builtin.clear_, run_underlying ht, hv, hz, hst]
theorem wpList_clear_rows {ops : Array Oper} {rest : List Oper} {op : Oper} {a : Act} {w : World} {Q : Exit → Act → World → Prop} (hgd : op.guard = none) (x : Operand) (t : TypeId)
    (ho : op.op = .call { callee := .builtin .clear, args := #[x], argTypes := #[t] }) (e : TypeId) (z : Value) (ht : P.underlying t = some (.slice e)) (hv : ∀ w, (zeroValue e).run P w = .ok z w)
    (b o n c : Nat) (hx : a.eval x = .slice (some ⟨b, o, none⟩) n c) (hn : 0 < n) (zs : List Value) (hz : (Builtin.zeroCells z.cells n).toList = zs) (h1 : ∀ v ∈ zs, v.oneCell' = true) (hth : w.there b o zs.length)
    (h : wpList P ops Q rest (a.put op.dst (.tuple #[])) (w.setCells b o zs)) : wpList P ops Q (op :: rest) a w := by
  refine wpList_plain hgd fun K hK => ?_
  have hr := run_clear_rows w t e op.type z ht hv b o n c hn zs hz h1 hth
  unfold Oper.wp execOp
  simp only [ho, resolve, invoke, builtin, Sem.run_bind, Sem.run_pure, Result.andThen_ok, List.map_toArray, List.map_cons, List.map_nil, hx, hr]
  exact hK _ _ h
end
theorem zeroTk (w : World) : (zeroValue 46).run Try.prog w = .ok (.agg #[.int .i64 0, .int .i64 0, .int .i64 0, .bool false, .slice none 0 0, .slice none 0 0, .bool false, .bool false]) w := by kernel_rfl
theorem zeros_len (n : Nat) : (Builtin.zeroCells (Value.agg #[.int .i64 0, .int .i64 0, .int .i64 0, .bool false, .slice none 0 0, .slice none 0 0, .bool false, .bool false]).cells n).toList.length = n * 8 := by
  rw [Array.length_toList, size_zeroCells]; rfl
theorem zeros_one (n : Nat) : ∀ v ∈ (Builtin.zeroCells (Value.agg #[.int .i64 0, .int .i64 0, .int .i64 0, .bool false, .slice none 0 0, .slice none 0 0, .bool false, .bool false]).cells n).toList, v.oneCell' = true := by
  intro v hv
  rw [Array.mem_toList_iff] at hv
  unfold Builtin.zeroCells at hv
  rw [Array.mem_map] at hv
  obtain ⟨i, _, rfl⟩ := hv
  have : i % 8 < 8 := Nat.mod_lt _ (by omega)
  show Value.oneCell' (#[.int .i64 0, .int .i64 0, .int .i64 0, .bool false, .slice none 0 0, .slice none 0 0, .bool false, .bool false][i % 8]!) = true
  generalize i % 8 = j at this
  rcases j with _ | _ | _ | _ | _ | _ | _ | _ | j
  · rfl
  · rfl
  · rfl
  · rfl
  · rfl
  · rfl
  · rfl
  · rfl
  · omega

set_option maxHeartbeats 3200000 in
theorem delete_track {g c lo : Nat} {ps : List (Tk × Mt)} {w : World} (k r : Nat) (hps : ps.length = k + 1 + r) (ho : w.ownsRow lo 46 8 (.slice (some ⟨g, 0, none⟩) (k + 1 + r) c) (k + 1 + r) (cP ps)) (hn : k + 1 + r ≤ 2097152) (h1c : ∀ u ∈ cP ps, u.oneCell' = true) :
    Calls Try.prog 77 #[.slice (some ⟨g, 0, none⟩) (k + 1 + r) c, .int .i64 k, .int .i64 ((k : Int) + 1)] w fun e w' => e = .returned (.slice (some ⟨g, 0, none⟩) (k + r) c) ∧ w'.ownsRow lo 46 8 (.slice (some ⟨g, 0, none⟩) (k + r) c) (k + r) (cP (ps.take k ++ ps.drop (k + 1))) ∧ Keeps (fun b => b = g) w w' := by
  obtain ⟨i0, hi, hz0, hz1, hz2⟩ := info_parts Try.infoTk
  obtain ⟨rest, hG, hx, hr, hnc, hcm, hlo⟩ := owns_block ho
  unfold maxLen at hcm
  have e1 : cP ps = cP (ps.take k) ++ (cP ((ps.drop k).take 1) ++ cP (ps.drop (k + 1))) := by
    rw [← cP_app, ← cP_app]
    congr 1
    rw [show ps.drop (k + 1) = (ps.drop k).drop 1 by rw [List.drop_drop], List.take_append_drop, List.take_append_drop]
  have l1 : (cP (ps.take k)).length = k * 8 := by rw [cP_len, List.length_take]; omega
  have l2 : (cP ((ps.drop k).take 1)).length = 8 := by rw [cP_len, List.length_take, List.length_drop]; omega
  have l3 : (cP (ps.drop (k + 1))).length = r * 8 := by rw [cP_len, List.length_drop]; omega
  obtain ⟨A, hA⟩ : ∃ A, cP (ps.take k) = A := ⟨_, rfl⟩
  obtain ⟨M, hM⟩ : ∃ M, cP ((ps.drop k).take 1) = M := ⟨_, rfl⟩
  obtain ⟨D, hD⟩ : ∃ D, cP (ps.drop (k + 1)) = D := ⟨_, rfl⟩
  have HF := hid (show cP (ps.take k ++ ps.drop (k + 1)) = A ++ D by rw [cP_app, hA, hD])
  rw [hA, hM, hD] at e1
  rw [hA] at l1
  rw [hM] at l2
  rw [hD] at l3
  rw [e1] at hG hr h1c
  clear hA hM hD e1 ho hx
  have hDc : ∀ u ∈ D, u.oneCell' = true := fun u hu => h1c u (by simp [hu])
  have hG' : w.drew.heap[g]? = some (.cells (A ++ (M ++ D) ++ rest).toArray 46) := hG
  have hsrc : ∀ j u, D[j]? = some u → w.drew.cell? ⟨g, (k + 1) * 8 + j, none⟩ = some u := fun j u hu => by
    rw [block_cell hG', List.append_assoc, List.getElem?_append_right (by omega), List.append_assoc, List.getElem?_append_right (by omega), l1, l2, List.getElem?_append_left (by have := (List.getElem?_eq_some_iff.1 hu).1; omega), ← hu]
    congr 1; omega
  have hlen : (A ++ (M ++ D) ++ rest).length = c * 8 := hr
  have hth : w.drew.there g (k * 8) (r * 8) := block_there hG' (by rw [hlen]; omega)
  have hG1 := heapL_setCells g 46 D (k * 8) w.drew _ (by rw [hlen, l3]; omega) hG'
  have eq1 : (A ++ (M ++ D) ++ rest).take (k * 8) = A := by rw [List.append_assoc, ← l1, List.take_left]
  rw [eq1] at hG1
  obtain ⟨R, hR⟩ : ∃ R, (A ++ (M ++ D) ++ rest).drop (k * 8 + D.length) = R := ⟨_, rfl⟩
  have lR : R.length = (c - (k + r)) * 8 := by rw [← hR, List.length_drop, hlen, l3]; omega
  rw [hR] at hG1
  obtain ⟨W1, hW1⟩ : ∃ W1, w.drew.setCells g (k * 8) D = W1 := ⟨_, rfl⟩
  have hth2 : W1.there g ((k + r) * 8) 8 := by
    rw [← hW1]
    exact block_there hG1 (by rw [List.length_append, List.length_append, l1, l3, lR]; omega)
  have K1 : Keeps (fun b => b = g) w W1 := by
    rw [← hW1]
    exact (Keeps.of_below ((Below.refl _ w).drew)).trans (Keeps.cells g D (k * 8) w.drew)
  obtain ⟨Z, hZ⟩ : ∃ Z, (Builtin.zeroCells (Value.agg #[.int .i64 0, .int .i64 0, .int .i64 0, .bool false, .slice none 0 0, .slice none 0 0, .bool false, .bool false]).cells 1).toList = Z := ⟨_, rfl⟩
  have lZ : Z.length = 8 := by rw [← hZ, zeros_len]
  have hZ1 : ∀ v ∈ Z, v.oneCell' = true := by rw [← hZ]; exact zeros_one 1
  rw [hW1] at hG1
  have hG2 := heapL_setCells g 46 Z ((k + r) * 8) W1 _ (by rw [lZ, List.length_append, List.length_append, l1, l3, lR]; omega) hG1
  have eq2 : (A ++ D ++ R).take ((k + r) * 8) = A ++ D := by rw [show (k + r) * 8 = (A ++ D).length by rw [List.length_append, l1, l3]; omega, List.take_left]
  rw [eq2, List.append_assoc] at hG2
  have HO2 := hid (block_owns (w := W1.setCells g ((k + r) * 8) Z) (lo := lo) (n := k + r) (c := c) hG2 (by rw [List.length_append, l1, l3]; omega) (by rw [List.length_append, List.length_append, List.length_append, List.length_drop, List.length_append, List.length_append, l1, l3, lZ, lR]; omega) (by omega) (by unfold maxLen; omega) hlo)
  have HK2 := hid (K1.trans (Keeps.cells g Z ((k + r) * 8) W1))
  have HT2 := hid hth2
  have HZ1 := hid (And.intro hZ (And.intro hZ1 lZ))
  have HT1 := hid hth
  have HSr := hid hsrc
  have HDc := hid hDc
  have HL := hid (And.intro l1 l3)
  have HW1 := hid hW1
  clear hZ hZ1 lZ hth hth2 hsrc hDc hG hG' hG1 hG2 hr h1c hlen eq1 eq2 hR lR K1 hW1 l1 l2 l3
  have q1 : (0 : Int) ≤ (k : Int) := by omega
  have q3 : ¬ (k : Int) = (k : Int) + 1 := by omega
  have hkc : k ≤ c := by omega
  have hk1 : k + 1 ≤ k + 1 + r := by omega
  have hk2 : k + 1 + r - (k + 1) = r := by omega
  have hk3 : k + 1 ≤ c := by omega
  have hk4 : (0 : Int) ≤ (k : Int) + 1 := by omega
  have hk5 : (k : Int) + 1 ≤ (k : Int) + 1 + (r : Int) := by omega
  have hk6 : k + 1 + r - (k + r) = 1 := by omega
  have hk7 : ¬ c = k + r := by omega
  have hk8 : (0 : Int) ≤ (k : Int) + (r : Int) := by omega
  have hk9 : (k : Int) + (r : Int) ≤ (k : Int) + 1 + (r : Int) := by omega
  have hk10 : k + r ≤ k + 1 + r := by omega
  have hk11 : (k : Int) + 1 + (r : Int) ≤ (c : Int) := by omega
  obtain ⟨B5, hB5, HB5⟩ : ∃ B5 : Addr, (if c = k + 1 then (some ⟨g, 0, none⟩ : Option Addr) else some ⟨g, (k + 1) * 8, none⟩) = some B5 ∧ Hid (∀ j u, D[j]? = some u → w.drew.cell? (B5.add j) = some u) := by
    by_cases hc : c = k + 1
    · have : D = [] := List.length_eq_zero_iff.1 (by have := HL.out.2; omega)
      exact ⟨_, by rw [if_pos hc], hid (fun j u hu => by rw [this] at hu; simp at hu)⟩
    · exact ⟨_, by rw [if_neg hc], hid (fun j u hu => by rw [Addr.add_mid]; exact HSr.out j u hu)⟩
  go_enter Try.func77, Try.ntmps77
  go_wp2
  refine region_K 99 (fun _ => True) (by kernel_rfl) ?_ (fun hHeld => ?_)
  · trivial
  refine anyK_take2 (i := 0) (v := ?v0_1) rfl (by kernel_rfl) (by kernel_rfl) (by kernel_rfl) (by rfl) (fun _ _ _ h => h) (by rfl) hHeld ?hy0_1 (some 20) (by rfl) ?rest0_1
  case hy0_1 => (intro W hSw; obtain _ := hSw; go_simp; (try with_reducible rfl))
  try simp only [Act.put, List.setIfInBounds_toArray, List.set_cons_succ, List.set_cons_zero]
  refine anyK_take2 (i := 1) (v := ?v1_2) rfl (by kernel_rfl) (by kernel_rfl) (by kernel_rfl) (by rfl) (fun _ _ _ h => h) (by rfl) hHeld ?hy1_2 (some 21) (by rfl) ?rest1_2
  case hy1_2 => (intro W hSw; obtain _ := hSw; go_simp; (try with_reducible rfl))
  try simp only [Act.put, List.setIfInBounds_toArray, List.set_cons_succ, List.set_cons_zero]
  refine anyK_take2 (i := 2) (v := ?v2_3) rfl (by kernel_rfl) (by kernel_rfl) (by kernel_rfl) (by rfl) (fun _ _ _ h => h) (by rfl) hHeld ?hy2_3 (some 22) (by rfl) ?rest2_3
  case hy2_3 => (intro W hSw; obtain _ := hSw; go_simp; (try with_reducible rfl))
  try simp only [Act.put, List.setIfInBounds_toArray, List.set_cons_succ, List.set_cons_zero]
  refine anyK_take2 (i := 3) (v := ?v3_4) rfl (by kernel_rfl) (by kernel_rfl) (by kernel_rfl) (by rfl) (fun _ _ _ h => h) (by rfl) hHeld ?hy3_4 (some 23) (by rfl) ?rest3_4
  case hy3_4 => (intro W hSw; obtain _ := hSw; go_simp; (try with_reducible rfl))
  try simp only [Act.put, List.setIfInBounds_toArray, List.set_cons_succ, List.set_cons_zero]
  refine anyK_take2 (i := 4) (v := ?v4_5) rfl (by kernel_rfl) (by kernel_rfl) (by kernel_rfl) (by rfl) (fun _ _ _ h => h) (by rfl) hHeld ?hy4_5 (some 24) (by rfl) ?rest4_5
  case hy4_5 => (intro W hSw; obtain _ := hSw; go_simp; (try with_reducible rfl))
  try simp only [Act.put, List.setIfInBounds_toArray, List.set_cons_succ, List.set_cons_zero]
  refine anyK_take2 (i := 5) (v := ?v5_6) rfl (by kernel_rfl) (by kernel_rfl) (by kernel_rfl) (by rfl) (fun _ _ _ h => h) (by rfl) hHeld ?hy5_6 (some 25) (by rfl) ?rest5_6
  case hy5_6 => (intro W hSw; obtain _ := hSw; go_simp; (try with_reducible rfl))
  try simp only [Act.put, List.setIfInBounds_toArray, List.set_cons_succ, List.set_cons_zero]
  refine anyK_step (i := 6) (by kernel_rfl) rfl (fun KP hK => ?_)
  refine step_append_room rfl (.tmp 22) (.tmp 25) 55 rfl 46 i0 8 Try.underlying55 hi hz1 g 0 k c rfl B5 r (c - (k + 1)) D rfl HL.out.2 HB5.out HDc.out (by omega) (fun j hj => ?_) ?_
  · rw [Nat.zero_add]
    exact HT1.out j (by have := HL.out.2; omega)
  rw [Nat.zero_add, HW1.out]
  clear hHeld
  refine hK.out _ _ trivial (fun hHeld => ?_)
  clear hK KP
  try simp only [Act.put]
  try simp only [List.setIfInBounds_toArray]
  refine anyK_take2 (i := 7) (v := ?v7_7) rfl (by kernel_rfl) (by kernel_rfl) (by kernel_rfl) (by rfl) (fun _ _ _ h => h) (by rfl) hHeld ?hy7_7 (some 0) (by rfl) ?rest7_7
  case hy7_7 => (intro W hSw; obtain _ := hSw; go_simp; (try with_reducible rfl))
  try simp only [Act.put]
  try simp only [List.setIfInBounds_toArray]
  try simp only [List.set_cons_succ, List.set_cons_zero]
  refine anyK_done (by kernel_rfl) ?_ _
  clear hHeld
  have hcl := fun ty => run_clear_rows (P := Try.prog) W1 55 46 ty (.agg #[.int .i64 0, .int .i64 0, .int .i64 0, .bool false, .slice none 0 0, .slice none 0 0, .bool false, .bool false]) Try.underlying55 zeroTk g ((k + r) * 8) 1 (c - (k + r)) (by omega) Z HZ1.out.1 HZ1.out.2.1 (by rw [HZ1.out.2.2]; exact HT2.out)
  go_wp2_with fail
  go_ret
  exact ⟨rfl, by rw [HF.out]; exact HO2.out, HK2.out⟩
end Go.Proofs.Ytnhlfkffllbpiaa
/- The library's DeleteFunc over tracks, with the program's test of those that passed. Conditions: at most 2^21 tracks. -/

namespace Go.Proofs.Ytnhlfkffllbpiaa
open Go.RowKit
set_option maxRecDepth 100000

set_option maxHeartbeats 3200000 in
theorem impl_passed1 (xi be en : Int) (al inn ou : Bool) {rs : List (Im × Im)} {ws : List Im} (a1 : Option Addr) (n1 c1 : Nat) (a2 : Option Addr) (n2 c2 : Nat) (x : Int) (B : Nat) {w : World} (hx : w.cell? ⟨B, 0, none⟩ = some (.int .i64 x)) :
    Calls Try.prog 109 #[.agg #[.int .i64 xi, .int .i64 be, .int .i64 en, .bool al, .slice a1 n1 c1, .slice a2 n2 c2, .bool inn, .bool ou], .pointer (some ⟨B, 0, none⟩)] w fun e w' => e = .returned (.bool (!lastB ⟨xi, be, en, al, rs, ws, inn, ou⟩ x)) ∧ Below w.heap.size w w' := by
  have hB := Below.alloc1 w (.cells #[.int .i64 xi, .int .i64 be, .int .i64 en, .bool al, .slice a1 n1 c1, .slice a2 n2 c2, .bool inn, .bool ou] 46)
  have k := (hB.cell (p := ⟨B, 0, none⟩) (World.block_lt_of_cell? w _ hx)).trans hx
  have HB := hid hB
  clear hB hx
  go_enter Try.func109, Try.ntmps109
  go_wp2_with fail
  refine (impl_lastsPast ⟨xi, be, en, al, rs, ws, inn, ou⟩ (.slice a1 n1 c1) (.slice a2 n2 c2) x _).mono ?_
  rintro e w1 ⟨rfl, b1⟩
  replace HB := hid (HB.out.trans (b1.mono HB.out.size))
  clear b1
  go_wp2_with fail
  go_ret
  exact ⟨rfl, HB.out⟩

set_option maxHeartbeats 3200000 in
theorem index_passed {a : Option Addr} {n : Nat} (c : Nat) {ts : List Tk} {w : World} (h : ReadsT w a ts) (hl : ts.length = n) (hn : n ≤ 2097152) (x : Int) (B : Nat) (hx : w.cell? ⟨B, 0, none⟩ = some (.int .i64 x)) :
    Calls Try.prog 103 #[.slice a n c, .func (.func 109) #[] #[.pointer (some ⟨B, 0, none⟩)]] w fun e w' => ∃ r : Int, e = .returned (.int .i64 r) ∧ ((r = -1 ∧ ∀ j, j < n → lastB (ts.getD j tk0) x = true) ∨ ∃ k : Nat, r = k ∧ k < n ∧ lastB (ts.getD k tk0) x = false ∧ ∀ j, j < k → lastB (ts.getD j tk0) x = true) ∧ Below w.heap.size w w' := by
  have HRT := hid h
  have HL := hid hl
  have HX := hid hx
  have HBl := hid (World.block_lt_of_cell? w _ hx)
  clear h hl hx
  go_enter Try.func103, Try.ntmps103
  go_wp2_with fail
  go_loopw [8] (fun i wr => ∃ k : Nat, k ≤ n ∧ i = .int .i64 k ∧ Hid (∀ j, j < k → lastB (ts.getD j tk0) x = true) ∧ Hid (Below w.heap.size w wr)) (fun i _ => n - (intOf i).toNat)
  case atStart => exact ⟨0, Nat.zero_le _, rfl, hid (fun i hi => by omega), hid (Below.refl _ _)⟩
  case round =>
    obtain ⟨k, hk, rfl, HNo, HW⟩ := hrel
    by_cases hlt : k < n
    · have hlt' : (k : Int) < (n : Int) := by omega
      have hk0 : (0 : Int) ≤ (k : Int) := by omega
      obtain ⟨b, off, a1, c1, a2, c2, rfl, bx0, r1, _, r2, _⟩ := HRT.out.at (k := k) (by have := HL.out; omega)
      obtain ⟨y0, y1, y2, y3, y4, y5, y6, y7⟩ := bx0.below HW.out (Nat.le_refl _)
      have HG := hid (show ∃ t, ts.getD k tk0 = t from ⟨_, rfl⟩)
      have HNx := hid (fun (e : lastB (ts.getD k tk0) x = true) j (hj : j < k + 1) => show lastB (ts.getD j tk0) x = true from by
        by_cases hc : j < k
        · exact HNo.out j hc
        · have : j = k := by omega
          subst this; exact e)
      obtain ⟨t, ht⟩ : ∃ t, ts.getD k tk0 = t := ⟨_, rfl⟩
      rw [ht] at y0 y1 y2 y3 y4 y5 y6 y7 HNx
      have HTt := hid ht
      clear ht HG
      obtain ⟨xi, be, en, al, rs, ws, inn, ou⟩ := t
      simp only at y0 y1 y2 y3 y4 y5 y6 y7
      generalize rs.length = n1 at *
      generalize ws.length = n2 at *
      clear bx0 r1 r2
      go_wp2_with fail
      clear y0 y1 y2 y3 y4 y5 y6 y7
      refine (impl_passed1 xi be en al inn ou (rs := rs) (ws := ws) a1 n1 c1 a2 n2 c2 x B ((HW.out.cell (p := ⟨B, 0, none⟩) HBl.out).trans HX.out)).mono ?_
      rintro e w1 ⟨rfl, b1⟩
      have HW2 := hid (HW.out.trans (b1.mono HW.out.size))
      clear b1
      cases hin : lastB ⟨xi, be, en, al, rs, ws, inn, ou⟩ x with
      | false =>
        have HT := hid hin
        clear hin
        go_wp2_with fail
        go_ret
        exact ⟨_, rfl, .inr ⟨k, rfl, hlt, by rw [HTt.out]; exact HT.out, HNo.out⟩, HW2.out⟩
      | true =>
        have HN2 := hid (HNx.out hin)
        clear hin
        go_wp2_with fail
        go_roundw
        case rel => exact ⟨k + 1, by omega, by go_num, HN2, HW2⟩
        case measure => simp [intOf]; omega
    · have hlt' : ¬ (k : Int) < (n : Int) := by omega
      go_wp2_with fail
      go_ret
      exact ⟨_, rfl, .inl ⟨rfl, fun j hj => HNo.out j (by omega)⟩, HW.out⟩

/-- A track in the midst of a block. -/
theorem mid_box {w : World} {g : Nat} {L R : List Value} {t : Tk} {m : Mt} {ty : TypeId} (h : w.heap[g]? = some (.cells (L ++ (cellsT1 t m ++ R)).toArray ty)) {j : Nat} (hj : L.length = j * 8) : Box8 w g (j * 8) t m.y m.z := by
  have e : ∀ q (hq : q < 8), w.cell? ⟨g, j * 8 + q, none⟩ = (cellsT1 t m)[q]? := fun q hq => by
    rw [block_cell h, List.getElem?_append_right (by omega), hj, Nat.add_sub_cancel_left, List.getElem?_append_left (by simp [cellsT1]; omega)]
  exact ⟨e 0 (by omega), e 1 (by omega), e 2 (by omega), e 3 (by omega), e 4 (by omega), e 5 (by omega), e 6 (by omega), e 7 (by omega)⟩
/-- A track laid over the first of X, in the midst of a block. -/
theorem mid_lay {w : World} {g : Nat} {A X R V : List Value} {ty : TypeId} (h : w.heap[g]? = some (.cells (A ++ (X ++ R)).toArray ty)) {i : Nat} (hi : A.length = i * 8) (hV : V.length = 8) (hX : 8 ≤ X.length) : (w.setCells g (i * 8) V).heap[g]? = some (.cells (A ++ V ++ (X.drop 8 ++ R)).toArray ty) := by
  have h1 := heapL_setCells g ty V (i * 8) w _ (by rw [List.length_append, List.length_append]; omega) h
  have e1 : (A ++ (X ++ R)).take (i * 8) = A := by rw [← hi, List.take_left]
  have e2 : (A ++ (X ++ R)).drop (i * 8 + V.length) = X.drop 8 ++ R := by rw [hV, ← hi, ← List.drop_drop, List.drop_left, List.drop_append_of_le_length hX]
  rw [h1, e1, e2]
theorem filt_step (f : Tk × Mt → Bool) (ps : List (Tk × Mt)) {j : Nat} (hj : j < ps.length) : (ps.take (j + 1)).filter f = (ps.take j).filter f ++ (if f ps[j] = true then [ps[j]] else []) := by
  rw [List.take_succ_eq_append_getElem hj, List.filter_append]
  congr 1
  by_cases q : f ps[j] = true
  · rw [if_pos q, List.filter_cons_of_pos q, List.filter_nil]
  · rw [if_neg q, List.filter_cons_of_neg q, List.filter_nil]
theorem filt_map (f : Tk → Bool) (ps : List (Tk × Mt)) : (ps.filter (fun p => f p.1)).map (·.1) = (ps.map (·.1)).filter f := by
  rw [List.filter_map]; rfl

set_option maxHeartbeats 6400000 in
theorem delete_passed {a : Option Addr} {n c lo hi : Nat} {ts : List Tk} {w : World} (h : OwnT w lo hi (.slice a n c) ts) (hl : ts.length = n) (hn : n ≤ 1048576) (hhw : hi ≤ w.heap.size) (x : Int) (B : Nat) (hB : hi ≤ B) (hx : w.cell? ⟨B, 0, none⟩ = some (.int .i64 x)) :
    Calls Try.prog 108 #[.slice a n c, .func (.func 109) #[] #[.pointer (some ⟨B, 0, none⟩)]] w fun e w' => ∃ v, e = .returned v ∧ OwnT w' lo hi v (ts.filter (fun t => lastB t x)) ∧ Keeps (fun b => (Value.slice a n c).ownBlock = some b) w w' := by
  have HO := hid h
  have HRD := hid h.rd
  have HL := hid hl
  have HX := hid hx
  have HBl := hid (World.block_lt_of_cell? w _ hx)
  clear h hl hx
  go_enter Try.func108, Try.ntmps108
  go_wp2_with fail
  refine (index_passed c HRD.out HL.out (by omega) x B HX.out).mono ?_
  rintro e w1 ⟨r, rfl, hr, b1⟩
  rcases hr with ⟨rfl, hall⟩ | ⟨k, rfl, hk, hkf, hkt⟩
  · have HF := hid (show ts.filter (fun t => lastB t x) = ts from List.filter_eq_self.2 (fun t ht => by
      obtain ⟨i, hi', rfl⟩ := List.getElem_of_mem ht
      have := hall i (by have := HL.out; omega)
      rwa [show ts.getD i tk0 = ts[i] by simp [List.getD, hi']] at this))
    have HO1 := hid (HO.out.below b1 hhw)
    have HK := hid (Keeps.of_below (X := fun b => (Value.slice a n c).ownBlock = some b) b1)
    clear hall b1
    go_wp2_with fail
    go_ret
    exact ⟨_, rfl, by rw [HF.out]; exact HO1.out, HK.out⟩
  · obtain ⟨ps, hps, oR, hBP⟩ := HO.out.pairs
    have hlen : ps.length = n := by rw [← HL.out, ← hps, List.length_map]
    rw [HL.out] at oR
    obtain ⟨g, rfl⟩ : ∃ g, a = some ⟨g, 0, none⟩ := by
      rcases oR.2 with ⟨e, h0⟩ | ⟨g, cap, cur, e, _⟩
      · omega
      · cases e; exact ⟨g, rfl⟩
    have hgt := HO.out.top g rfl
    obtain ⟨rest, hG, hxl, hrl, hnc, hcm, hlo⟩ := owns_block oR
    have fk : ps.filter (fun p => lastB p.1 x) = ps.filter (fun p => lastB p.1 x) := rfl
    clear fk
    have hgetD : ∀ j (hj : j < ps.length), ts.getD j tk0 = ps[j].1 := fun j hj => by rw [← hps]; simp [List.getD, hj]
    have F0 : (ps.take (k + 1)).filter (fun p => lastB p.1 x) = ps.take k := by
      rw [filt_step _ _ (by omega), if_neg (by rw [← hgetD k (by omega), hkf]; simp), List.append_nil]
      exact List.filter_eq_self.2 (fun p hp => by
        obtain ⟨i, hi', rfl⟩ := List.getElem_of_mem hp
        rw [List.length_take] at hi'
        rw [List.getElem_take, ← hgetD i (by omega)]
        exact hkt i (by omega))
    have G0 : w1.heap[g]? = some (.cells (cP (ps.take k) ++ (cP ((ps.drop k).take 1) ++ (cP (ps.drop (k + 1)) ++ rest))).toArray 46) := by
      rw [b1.block g (by omega), hG]
      congr 3
      rw [← List.append_assoc, ← List.append_assoc, ← cP_app, ← cP_app]
      congr 2
      rw [List.append_assoc, show ps.drop (k + 1) = (ps.drop k).drop 1 by rw [List.drop_drop], List.take_append_drop, List.take_append_drop]
    have HG0 := hid G0
    have HF0 := hid F0
    have HX0 := hid (show (cP ((ps.drop k).take 1)).length = 8 by rw [cP_len, List.length_take, List.length_drop]; omega)
    have HLT := hid (show (ps.take k).length = k by rw [List.length_take]; omega)
    have HPS := hid (And.intro hps hlen)
    have HBP := hid (hBP.keep (Keeps.of_below (X := fun b => b = g) b1) (fun p hp b hb e => by subst e; exact (hBP.own p hp).off oR (by decide) (by decide) (by decide) hb rfl))
    have HRw := hid (owns_below b1 (Nat.le_refl _) oR)
    have HK1 := hid (show Keeps (fun b => b = g) w w1 from Keeps.of_below b1)
    have HGD := hid hgetD
    have HXX := hid ((b1.cell (p := ⟨B, 0, none⟩) HBl.out).trans HX.out)
    have HS1 := hid b1.size
    have HRL := hid hrl
    have HCM := hid hcm
    have hgB : B ≠ g := by omega
    have hkn1 : ((k : Int) == -1) = false := by simp
    clear hps oR hBP hG hxl hrl hgetD F0 G0 b1 hkf hkt HO HRD hlen hcm
    go_wp2_with fail
    go_loopw [5, 6] (fun vi vj wr => ∃ (i j : Nat) (X : List Value), i < j ∧ j ≤ n ∧ vi = .int .i64 i ∧ vj = .int .i64 j ∧ Hid (((ps.take j).filter (fun p => lastB p.1 x)).length = i) ∧ Hid (X.length = (j - i) * 8) ∧ Hid (wr.heap[g]? = some (.cells (cP ((ps.take j).filter (fun p => lastB p.1 x)) ++ (X ++ (cP (ps.drop j) ++ rest))).toArray 46)) ∧ Hid (Keeps (fun b => b = g) w1 wr)) (fun _ vj _ => n - (intOf vj).toNat)
    case atStart => exact ⟨k, k + 1, _, by omega, by omega, rfl, by go_num, hid (by rw [HF0.out]; exact HLT.out), hid (by rw [HX0.out]; omega), hid (by rw [HF0.out]; exact HG0.out), hid (Keeps.refl _ _)⟩
    case round =>
      obtain ⟨i, j, X, hij, hjn, rfl, rfl, HFl, HXl, HG, HK⟩ := hrel
      clear HG0 HF0 HX0 HLT
      by_cases hlt : j < n
      · have hlt' : (j : Int) < (n : Int) := by omega
        have hj0 : (0 : Int) ≤ (j : Int) := by omega
        have hi0 : (0 : Int) ≤ (i : Int) := by omega
        have hin : (i : Int) < (n : Int) := by omega
        have hps := HPS.out
        have hpj : j < ps.length := by omega
        have FS := filt_step (fun p => lastB p.1 x) ps hpj
        have edr : cP (ps.drop j) = cellsT1 ps[j].1 ps[j].2 ++ cP (ps.drop (j + 1)) := by rw [List.drop_eq_getElem_cons hpj, cP_cons]
        have hg1 := HG.out
        rw [edr] at hg1
        obtain ⟨a1, n1, c1, a2, n2, c2, ey, ez⟩ := (HBP.out.own _ (List.getElem_mem hpj)).part.sl
        generalize ps[j] = p at *
        obtain ⟨t, m⟩ := p
        obtain ⟨my, mX, mz, mY⟩ := m
        simp only at ey ez
        subst ey ez
        obtain ⟨xi, be, en, al, rs, ws, inn, ou⟩ := t
        have hFl := HFl.out
        have hXl := HXl.out
        have e1 : cellsT1 ⟨xi, be, en, al, rs, ws, inn, ou⟩ ⟨.slice a1 n1 c1, mX, .slice a2 n2 c2, mY⟩ = [.int .i64 xi, .int .i64 be, .int .i64 en, .bool al, .slice a1 n1 c1, .slice a2 n2 c2, .bool inn, .bool ou] := rfl
        have hbx := mid_box (t := ⟨xi, be, en, al, rs, ws, inn, ou⟩) (m := ⟨.slice a1 n1 c1, mX, .slice a2 n2 c2, mY⟩) (L := cP ((ps.take j).filter (fun p => lastB p.1 x)) ++ X) (R := cP (ps.drop (j + 1)) ++ rest) (j := j) (by rw [List.append_assoc]; simpa only [List.append_assoc] using hg1) (by rw [List.length_append, cP_len, hFl, hXl]; omega)
        obtain ⟨y0, y1, y2, y3, y4, y5, y6, y7⟩ := hbx
        simp only at y0 y1 y2 y3 y4 y5 y6 y7
        have bA := Below.alloc1 wr (.cells #[.int .i64 xi, .int .i64 be, .int .i64 en, .bool al, .slice a1 n1 c1, .slice a2 n2 c2, .bool inn, .bool ou] 46)
        have hgw : g < wr.heap.size := (Array.getElem?_eq_some_iff.1 HG.out).1
        have hBw : B < wr.heap.size := by have := HK.out.size; have := HS1.out; have := HBl.out; omega
        have HGA := hid ((bA.block g hgw).trans hg1)
        have HXA := hid ((bA.cell (p := ⟨B, 0, none⟩) hBw).trans ((World.cell?_of_block (w := w1) (a := ⟨B, 0, none⟩) (HK.out.block B (by have := HS1.out; have := HBl.out; omega) hgB)).trans HXX.out))
        have HKA := hid (HK.out.trans (Keeps.of_below (X := fun b => b = g) bA))
        have HRA := hid (heap_alloc_new wr (.cells #[.int .i64 xi, .int .i64 be, .int .i64 en, .bool al, .slice a1 n1 c1, .slice a2 n2 c2, .bool inn, .bool ou] 46))
        have HZA := hid (And.intro hgw (alloc_size wr (.cells #[.int .i64 xi, .int .i64 be, .int .i64 en, .bool al, .slice a1 n1 c1, .slice a2 n2 c2, .bool inn, .bool ou] 46)))
        have HFS := hid FS
        have HEd := hid edr
        clear bA hgw hBw hg1 FS edr hFl hXl hps hpj HK
        go_wp2_with fail
        clear y0 y1 y2 y3 y4 y5 y6 y7
        refine (impl_passed1 xi be en al inn ou (rs := rs) (ws := ws) a1 n1 c1 a2 n2 c2 x B HXA.out).mono ?_
        rintro e w2 ⟨rfl, b2⟩
        have hzz := HZA.out
        have HG2 := hid ((b2.block g (by omega)).trans HGA.out)
        have hR2 := (b2.block wr.heap.size (by omega)).trans HRA.out
        have HK2 := hid (HKA.out.trans (Keeps.of_below (X := fun b => b = g) b2))
        clear b2 hzz HGA HRA HKA HXA
        cases hv : lastB ⟨xi, be, en, al, rs, ws, inn, ou⟩ x with
        | false =>
          have N1 := hid (show (ps.take (j + 1)).filter (fun p => lastB p.1 x) = (ps.take j).filter (fun p => lastB p.1 x) by rw [HFS.out]; simp only [hv, Bool.false_eq_true, if_false, List.append_nil])
          clear hv hR2
          go_wp2_with fail
          go_roundw
          case rel => exact ⟨i, j + 1, X ++ [.int .i64 xi, .int .i64 be, .int .i64 en, .bool al, .slice a1 n1 c1, .slice a2 n2 c2, .bool inn, .bool ou], by omega, by omega, rfl, by go_num, hid (by rw [N1.out]; exact HFl.out), hid (by rw [List.length_append, HXl.out]; simp; omega), hid (by rw [N1.out, List.append_assoc]; exact HG2.out), HK2⟩
          case measure => simp [intOf]; omega
        | true =>
          have N1 := hid (show (ps.take (j + 1)).filter (fun p => lastB p.1 x) = (ps.take j).filter (fun p => lastB p.1 x) ++ [(⟨xi, be, en, al, rs, ws, inn, ou⟩, ⟨.slice a1 n1 c1, mX, .slice a2 n2 c2, mY⟩)] by rw [HFS.out]; simp only [hv, if_true])
          clear hv
          have hla : (cP ((ps.take j).filter (fun p => lastB p.1 x))).length = i * 8 := by rw [cP_len, HFl.out]
          have hX8 : 8 ≤ X.length := by rw [HXl.out]; omega
          have HLay := hid (mid_lay (V := [.int .i64 xi, .int .i64 be, .int .i64 en, .bool al, .slice a1 n1 c1, .slice a2 n2 c2, .bool inn, .bool ou]) HG2.out hla rfl hX8)
          have HTh := hid (show w2.there g (i * 8) 8 from block_there HG2.out (by rw [List.length_append, List.length_append]; omega))
          have HK3 := hid (HK2.out.trans (Keeps.cells g [.int .i64 xi, .int .i64 be, .int .i64 en, .bool al, .slice a1 n1 c1, .slice a2 n2 c2, .bool inn, .bool ou] (i * 8) w2))
          have y0 := cell_of_row _ _ 0 _ _ _ hR2
          have y1 := cell_of_row _ _ 1 _ _ _ hR2
          have y2 := cell_of_row _ _ 2 _ _ _ hR2
          have y3 := cell_of_row _ _ 3 _ _ _ hR2
          have y4 := cell_of_row _ _ 4 _ _ _ hR2
          have y5 := cell_of_row _ _ 5 _ _ _ hR2
          have y6 := cell_of_row _ _ 6 _ _ _ hR2
          have y7 := cell_of_row _ _ 7 _ _ _ hR2
          clear hR2 hla hX8
          go_wp2_with (refine wpList_store_mid rfl 46 (.tmp 33) (.tmp 32) rfl g (i * 8) #[.int .i64 xi, .int .i64 be, .int .i64 en, .bool al, .slice a1 n1 c1, .slice a2 n2 c2, .bool inn, .bool ou] rfl rfl ?th ?si ?on ?_)
          case th => exact HTh.out
          case si => exact size_tk
          case on => simp [Value.oneCell']
          go_wp2_with fail
          go_roundw
          case rel => exact ⟨i + 1, j + 1, X.drop 8 ++ [.int .i64 xi, .int .i64 be, .int .i64 en, .bool al, .slice a1 n1 c1, .slice a2 n2 c2, .bool inn, .bool ou], by omega, by omega, by go_num, by go_num, hid (by rw [N1.out, List.length_append, HFl.out]; rfl), hid (by rw [List.length_append, List.length_drop, HXl.out]; simp; omega), hid (by rw [N1.out, cP_app, List.append_assoc (List.drop 8 X)]; exact HLay.out), HK3⟩
          case measure => simp [intOf]; omega
      · have hlt' : ¬ (j : Int) < (n : Int) := by omega
        obtain rfl : j = n := by omega
        have hps := HPS.out
        have hFl := HFl.out
        have hXl := HXl.out
        have hi0 : (0 : Int) ≤ (i : Int) := by omega
        have hij' : (i : Int) ≤ (j : Int) := by omega
        have hic : i ≤ c := by omega
        have hic' : ¬ c = i := by omega
        have hij2 : i ≤ j := by omega
        have hg1 := HG.out
        rw [List.take_of_length_le (by omega), List.drop_of_length_le (by omega), show cP [] = [] from rfl, List.nil_append] at hg1
        rw [List.take_of_length_le (by omega)] at hFl
        obtain ⟨F, hF⟩ : ∃ F, ps.filter (fun p => lastB p.1 x) = F := ⟨_, rfl⟩
        rw [hF] at hg1 hFl
        have hla : (cP F).length = i * 8 := by rw [cP_len, hFl]
        have hzl := zeros_len (j - i)
        have hzo := zeros_one (j - i)
        obtain ⟨Z, hZ⟩ : ∃ Z, (Builtin.zeroCells (Value.agg #[.int .i64 0, .int .i64 0, .int .i64 0, .bool false, .slice none 0 0, .slice none 0 0, .bool false, .bool false]).cells (j - i)).toList = Z := ⟨_, rfl⟩
        rw [hZ] at hzl hzo
        have hlen : (cP F ++ (X ++ rest)).length = c * 8 := by
          have := HRL.out
          rw [List.length_append, cP_len] at this
          rw [List.length_append, List.length_append, hla, hXl]
          omega
        have hth : wr.there g (i * 8) Z.length := block_there hg1 (by rw [hlen, hzl]; omega)
        have hcl := fun ty => run_clear_rows (P := Try.prog) wr 55 46 ty (.agg #[.int .i64 0, .int .i64 0, .int .i64 0, .bool false, .slice none 0 0, .slice none 0 0, .bool false, .bool false]) Try.underlying55 zeroTk g (i * 8) (j - i) (c - i) (by omega) Z hZ hzo hth
        have hg2 := heapL_setCells g 46 Z (i * 8) wr _ (by rw [hlen, hzl]; omega) hg1
        rw [show (cP F ++ (X ++ rest)).take (i * 8) = cP F by rw [← hla, List.take_left], List.append_assoc] at hg2
        have HOw := hid (block_owns (lo := lo) (n := i) (c := c) hg2 hla (by rw [List.length_append, List.length_append, List.length_drop, hlen, hla, hzl]; omega) hic HCM.out hlo)
        have HKF := hid ((HK1.out.trans HK.out).trans (Keeps.cells g Z (i * 8) wr))
        have HBF := hid (HBP.out.off HRw.out (HK.out.trans (Keeps.cells g Z (i * 8) wr)))
        have HFF := hid (And.intro hF hFl)
        clear hps hFl hXl hg1 hg2 hla hzl hzo hZ hlen hth hF HG HXl HFl HK
        go_wp2_with fail
        go_ret
        refine ⟨_, rfl, ?_, HKF.out.mono (fun b hb => by subst hb; rfl)⟩
        have hq := HBF.out.sub (List.filter_sublist (p := fun p => lastB p.1 x))
        rw [HFF.out.1] at hq
        have hown := hq.own_t (v := .slice (some ⟨g, 0, none⟩) i c) (by rw [HFF.out.2]; exact HOw.out) (fun g' hg' => by
          obtain rfl : g = g' := by simpa [Value.ownBlock] using hg'
          exact hgt)
        rw [← HFF.out.1, filt_map (fun t => lastB t x) ps, HPS.out.1] at hown
        exact hown
end Go.Proofs.Ytnhlfkffllbpiaa
/- A cell of a row of tracks set; the tracks that are kept; the contract of the program's withoutPassed. Conditions: at most 2^20 tracks. -/

namespace Go.Proofs.Ytnhlfkffllbpiaa
open Go.RowKit
set_option maxRecDepth 100000

theorem cP_set {ps : List (Tk × Mt)} {k q : Nat} {u : Value} {t' : Tk} (hk : k < ps.length) (hq : q < 8) (hc : cellsT1 t' ps[k].2 = (cellsT1 ps[k].1 ps[k].2).set q u) : (cP ps).set (k * 8 + q) u = cP (ps.set k (t', ps[k].2)) := by
  have e1 : cP ps = cP (ps.take k) ++ (cellsT1 ps[k].1 ps[k].2 ++ cP (ps.drop (k + 1))) := by
    conv => lhs; rw [← List.take_append_drop k ps, List.drop_eq_getElem_cons hk, cP_app, cP_cons]
  have l1 : (cP (ps.take k)).length = k * 8 := by rw [cP_len, List.length_take]; omega
  have e2 : ps.set k (t', ps[k].2) = ps.take k ++ (t', ps[k].2) :: ps.drop (k + 1) := by rw [List.set_eq_take_append_cons_drop, if_pos hk]
  rw [e2, cP_app, cP_cons, hc, e1, List.set_append_right _ _ (by omega), l1, Nat.add_sub_cancel_left, List.set_append_left _ _ (by simp [cellsT1]; omega)]
theorem owns_set {w : World} {lo g n c : Nat} {xs : List Value} (o : w.ownsRow lo 46 8 (.slice (some ⟨g, 0, none⟩) n c) n xs) {j : Nat} (hj : j < n * 8) (u : Value) : (w.setCell ⟨g, j, none⟩ u).ownsRow lo 46 8 (.slice (some ⟨g, 0, none⟩) n c) n (xs.set j u) := by
  obtain ⟨rest, hG, hx, hr, hnc, hcm, hlo⟩ := owns_block o
  have h1 := heap_setCell_same w g j _ 46 u hG
  rw [List.setIfInBounds_toArray, List.set_append_left _ _ (by omega)] at h1
  exact block_owns h1 (by rw [List.length_set]; exact hx) (by rw [List.length_append, List.length_set, ← List.length_append]; exact hr) hnc hcm hlo
theorem BandsP.set {w : World} {lo hi : Nat} {ps : List (Tk × Mt)} (h : BandsP w lo hi ps) {k : Nat} (hk : k < ps.length) {t' : Tk} (hr : t'.rs = ps[k].1.rs) (hw : t'.ws = ps[k].1.ws) : BandsP w lo hi (ps.set k (t', ps[k].2)) := by
  refine ⟨fun p hp => ?_, ?_⟩
  · rcases List.mem_or_eq_of_mem_set hp with q | rfl
    · exact h.own p q
    · have := h.own _ (List.getElem_mem hk)
      exact ⟨by simp only [hr]; exact this.rd, by simp only [hw]; exact this.wr, this.apart⟩
  · have e : (ps.set k (t', ps[k].2)).map (·.2) = ps.map (·.2) := by
      rw [List.map_set]
      apply List.ext_getElem?
      intro i
      rw [List.getElem?_set]
      by_cases q : k = i
      · subst q; simp [hk]
      · rw [if_neg q]
    have h1 : (ps.map (·.2)).Pairwise (fun p q => ∀ b, blkT p b → ¬ blkT q b) := List.pairwise_map.2 h.apart
    rw [← e] at h1
    exact List.pairwise_map.1 h1
/-- One cell of a row of tracks is set. -/
theorem OwnT.cell {w : World} {lo hi g n c : Nat} {ts : List Tk} (h : OwnT w lo hi (.slice (some ⟨g, 0, none⟩) n c) ts) (hl : ts.length = n) {k q : Nat} (hk : k < n) (hq : q < 8) {u : Value} {t' : Tk} (hr : t'.rs = (ts.getD k tk0).rs) (hw : t'.ws = (ts.getD k tk0).ws) (hc : ∀ m, cellsT1 t' m = (cellsT1 (ts.getD k tk0) m).set q u) : OwnT (w.setCell ⟨g, k * 8 + q, none⟩ u) lo hi (.slice (some ⟨g, 0, none⟩) n c) (ts.set k t') := by
  obtain ⟨ps, hps, oR, hBP⟩ := h.pairs
  rw [hl] at oR
  have hlen : ps.length = n := by rw [← hl, ← hps, List.length_map]
  have hkp : k < ps.length := by omega
  have hg : ts.getD k tk0 = ps[k].1 := by rw [← hps]; simp [List.getD, hkp]
  rw [hg] at hr hw hc
  have o2 := owns_set oR (j := k * 8 + q) (by omega) u
  rw [cP_set hkp hq (hc _)] at o2
  have hK := Keeps.set (X := fun b => b = g) w (p := ⟨g, k * 8 + q, none⟩) rfl u
  have b2 := (hBP.off oR hK).set hkp hr hw
  have := b2.own_t (v := .slice (some ⟨g, 0, none⟩) n c) (by rw [List.length_set, hlen]; exact o2) h.top
  rw [List.map_set, hps] at this
  exact this

def oldS (m : Int) (t : Tk) : Int := if t.ended = 0 then (if t.begun < m then t.begun else m) else m
/-- The least beginning of those that are active. -/
def oldM (ts : List Tk) : Int := ts.foldl oldS 9223372036854775807
theorem oldM_step (ts : List Tk) {k : Nat} (hk : k < ts.length) : oldM (ts.take (k + 1)) = oldS (oldM (ts.take k)) (ts.getD k tk0) := by
  unfold oldM
  rw [take_snocT ts k hk, List.foldl_append]
  rfl
theorem old_lt : ∀ (L : List Tk) (m e : Int), L.foldl oldS m < e ↔ (m < e ∨ ∃ u ∈ L, u.ended = 0 ∧ u.begun < e)
  | [], m, e => by simp
  | t :: L, m, e => by
    rw [List.foldl_cons, old_lt L (oldS m t) e]
    unfold oldS
    constructor
    · rintro (h | ⟨u, hu, h1, h2⟩)
      · split at h
        · rename_i h0
          split at h
          · exact .inr ⟨t, by simp, h0, h⟩
          · exact .inl h
        · exact .inl h
      · exact .inr ⟨u, List.mem_cons_of_mem _ hu, h1, h2⟩
    · rintro (h | ⟨u, hu, h1, h2⟩)
      · refine .inl ?_
        split
        · split
          · omega
          · exact h
        · exact h
      · rcases List.mem_cons.1 hu with rfl | hu
        · refine .inl ?_
          rw [if_pos h1]
          split
          · exact h2
          · omega
        · exact .inr ⟨u, hu, h1, h2⟩
theorem kept_old {L : List Tk} (hb : ∀ t ∈ L, t.ended ≤ 9223372036854775807) : keptT L = L.filter (fun t => lastB t (oldM L)) := by
  unfold keptT
  apply List.filter_congr
  intro t ht
  unfold needB lastB
  congr 1
  rw [Bool.eq_iff_iff, List.any_eq_true, decide_eq_true_iff]
  unfold oldM
  rw [old_lt L 9223372036854775807 t.ended]
  constructor
  · rintro ⟨u, hu, h⟩
    unfold holdB at h
    rw [Bool.and_eq_true, decide_eq_true_iff, decide_eq_true_iff] at h
    exact .inr ⟨u, hu, h⟩
  · rintro (h | ⟨u, hu, h⟩)
    · have := hb t ht; omega
    · refine ⟨u, hu, ?_⟩
      unfold holdB
      rw [Bool.and_eq_true, decide_eq_true_iff, decide_eq_true_iff]
      exact h
theorem left_true (ts : List Tk) {k : Nat} (hk : k < ts.length) (now : Int) : leftT ts k true now = ts.set k (endT (ts.getD k tk0) now) := by
  have h : ∀ j, j ≤ ts.length → leftJ ts k true now j = (ts.set k (endT (ts.getD k tk0) now)).take j := by
    intro j
    induction j with
    | zero => intro _; simp [leftJ]
    | succ j ih =>
      intro hj
      rw [leftJ_succ, ih (by omega), List.take_succ_eq_append_getElem (by rw [List.length_set]; omega)]
      congr 1
      unfold stepT
      by_cases q : j = k
      · subst q; simp
      · rw [if_neg q, List.getElem_set_ne (fun e => q e.symm)]
        simp [List.getD, show j < ts.length by omega]
  unfold leftT
  rw [h _ (Nat.le_refl _), List.take_of_length_le (by rw [List.length_set]; exact Nat.le_refl _)]
theorem left_false (ts : List Tk) {k : Nat} (hk : k < ts.length) (now : Int) : leftT ts k false now = ts.take k ++ ts.drop (k + 1) := by
  have h1 : ∀ j, j ≤ k → leftJ ts k false now j = ts.take j := by
    intro j
    induction j with
    | zero => intro _; simp [leftJ]
    | succ j ih =>
      intro hj
      rw [leftJ_succ, ih (by omega), List.take_succ_eq_append_getElem (by omega)]
      congr 1
      unfold stepT
      rw [if_neg (by omega)]
      simp [List.getD, show j < ts.length by omega]
  have h2 : ∀ r, k + 1 + r ≤ ts.length → leftJ ts k false now (k + 1 + r) = ts.take k ++ (ts.drop (k + 1)).take r := by
    intro r
    induction r with
    | zero =>
      intro _
      rw [Nat.add_zero, leftJ_succ, h1 k (Nat.le_refl _)]
      unfold stepT
      simp
    | succ r ih =>
      intro hr
      rw [← Nat.add_assoc, leftJ_succ, ih (by omega), List.take_succ_eq_append_getElem (by rw [List.length_drop]; omega), ← List.append_assoc]
      congr 1
      unfold stepT
      rw [if_neg (by omega), List.getElem_drop]
      simp [List.getD, show k + 1 + r < ts.length by omega]
  unfold leftT
  obtain ⟨r, hr⟩ : ∃ r, ts.length = k + 1 + r := ⟨ts.length - (k + 1), by omega⟩
  have e : (ts.drop (k + 1)).take r = ts.drop (k + 1) := List.take_of_length_le (by rw [List.length_drop]; omega)
  rw [hr, h2 r (by omega), e]

set_option maxHeartbeats 6400000 in
theorem impl_withoutPassed {a : Option Addr} {n c lo hi : Nat} {ts : List Tk} {w : World} (h : OwnT w lo hi (.slice a n c) ts) (hl : ts.length = n) (hn : n ≤ 1048576) (hhw : hi ≤ w.heap.size) (hbd : ∀ t ∈ ts, t.ended ≤ 9223372036854775807) :
    Calls Try.prog 76 #[.slice a n c] w fun e w' => ∃ v, e = .returned v ∧ OwnT w' lo hi v (keptT ts) ∧ Keeps (fun b => (Value.slice a n c).ownBlock = some b) w w' := by
  rw [kept_old hbd]
  have HO := hid h
  have HRD := hid h.rd
  have HL := hid hl
  clear h hl hbd
  go_enter Try.func76, Try.ntmps76
  go_wp2_with fail
  go_loopw [8] (fun i wr => ∃ k : Nat, k ≤ n ∧ i = .int .i64 k ∧ Hid (wr.heap[w.heap.size]? = some (.cells #[.int .i64 (oldM (ts.take k))] 3)) ∧ Hid (Below w.heap.size w wr) ∧ w.heap.size < wr.heap.size) (fun i _ => n - (intOf i).toNat)
  case atStart => exact ⟨0, Nat.zero_le _, rfl, hid (heap_alloc_new _ _), hid (Below.alloc1 _ _), by rw [alloc_size]; omega⟩
  case round =>
    obtain ⟨k, hk, rfl, HT, HB, hsz⟩ := hrel
    by_cases hlt : k < n
    · have hlt' : (k : Int) < (n : Int) := by omega
      have hk0 : (0 : Int) ≤ (k : Int) := by omega
      obtain ⟨b, off, a1, c1, a2, c2, rfl, bx0, r1, _, r2, _⟩ := HRD.out.at (k := k) (by have := HL.out; omega)
      obtain ⟨y0, y1, y2, y3, y4, y5, y6, y7⟩ := bx0.below HB.out (Nat.le_refl _)
      have HSt := hid (oldM_step ts (k := k) (by have := HL.out; omega))
      generalize ts.getD k tk0 = t at *
      obtain ⟨xi, be, en, al, rs, ws, inn, ou⟩ := t
      simp only at y0 y1 y2 y3 y4 y5 y6 y7
      generalize rs.length = n1 at *
      generalize ws.length = n2 at *
      obtain ⟨M, hM⟩ : ∃ M, oldM (ts.take k) = M := ⟨_, rfl⟩
      rw [hM] at HT HSt
      have HSo := hid (show oldS M ⟨xi, be, en, al, rs, ws, inn, ou⟩ = if en = 0 then (if be < M then be else M) else M from rfl)
      have bA := Below.alloc1 wr (.cells #[.int .i64 xi, .int .i64 be, .int .i64 en, .bool al, .slice a1 n1 c1, .slice a2 n2 c2, .bool inn, .bool ou] 46)
      have HBA := hid (HB.out.trans (bA.mono HB.out.size))
      have HX := hid (BoxK.row (heap_alloc_new wr (.cells #[.int .i64 xi, .int .i64 be, .int .i64 en, .bool al, .slice a1 n1 c1, .slice a2 n2 c2, .bool inn, .bool ou] 46)))
      have HTA := hid ((bA.block w.heap.size hsz).trans HT.out)
      have HZ := hid (alloc_size wr (.cells #[.int .i64 xi, .int .i64 be, .int .i64 en, .bool al, .slice a1 n1 c1, .slice a2 n2 c2, .bool inn, .bool ou] 46))
      clear bx0 r1 r2 bA HT hM
      go_wp2_with fail
      clear y0 y1 y2 y3 y4 y5 y6 y7
      refine (impl_isActive ⟨xi, be, en, al, rs, ws, inn, ou⟩ (.slice a1 n1 c1) (.slice a2 n2 c2) _).mono ?_
      rintro e w1 ⟨rfl, b1⟩
      have z1 := (HX.out.below b1 (Nat.le_refl _)).c1
      have ht1 := (b1.block w.heap.size (by have := HZ.out; omega)).trans HTA.out
      have HB1 := hid (HBA.out.trans (b1.mono HBA.out.size))
      have hsz1 : w.heap.size < w1.heap.size := by have := HZ.out; have := b1.size; omega
      clear b1 HTA HBA HX
      simp only
      by_cases h0 : en = 0
      · rw [decide_eq_true h0]
        have k0 : w1.cell? ⟨w.heap.size, 0, none⟩ = some (.int .i64 M) := cell_of_row _ _ 0 _ _ _ ht1
        have kf : w1.frozen? ⟨w.heap.size, 0, none⟩ = false := frozen_of_row _ _ _ _ _ ht1
        by_cases hm : be < M
        · have hm' : ¬ M ≤ be := by omega
          have hmin : min M be = be := by omega
          have HR := hid (show (w1.setCell ⟨w.heap.size, 0, none⟩ (.int .i64 be)).heap[w.heap.size]? = some (.cells #[.int .i64 (oldM (ts.take (k + 1)))] 3) by rw [heap_setCell_same _ _ _ _ _ _ ht1, HSt.out, HSo.out, if_pos h0, if_pos hm]; rfl)
          have HB2 := hid (HB1.out.setCell (p := ⟨w.heap.size, 0, none⟩) (Nat.le_refl _) (.int .i64 be))
          clear h0 ht1
          go_wp2_with fail
          go_roundw
          case rel => exact ⟨k + 1, by omega, by go_num, HR, HB2, by rw [set_size13]; exact hsz1⟩
          case measure => simp [intOf]; omega
        · have hm' : M ≤ be := by omega
          have hmin : min M be = M := by omega
          have HR := hid (show (w1.setCell ⟨w.heap.size, 0, none⟩ (.int .i64 M)).heap[w.heap.size]? = some (.cells #[.int .i64 (oldM (ts.take (k + 1)))] 3) by rw [heap_setCell_same _ _ _ _ _ _ ht1, HSt.out, HSo.out, if_pos h0, if_neg hm]; rfl)
          have HB2 := hid (HB1.out.setCell (p := ⟨w.heap.size, 0, none⟩) (Nat.le_refl _) (.int .i64 M))
          clear h0 ht1
          go_wp2_with fail
          go_roundw
          case rel => exact ⟨k + 1, by omega, by go_num, HR, HB2, by rw [set_size13]; exact hsz1⟩
          case measure => simp [intOf]; omega
      · rw [decide_eq_false h0]
        have HR := hid (show w1.heap[w.heap.size]? = some (.cells #[.int .i64 (oldM (ts.take (k + 1)))] 3) by rw [ht1, HSt.out, HSo.out, if_neg h0])
        clear h0 ht1
        go_wp2_with fail
        go_roundw
        case rel => exact ⟨k + 1, by omega, by go_num, HR, HB1, hsz1⟩
        case measure => simp [intOf]; omega
    · have hlt' : ¬ (k : Int) < (n : Int) := by omega
      have HR := hid (show wr.cell? ⟨w.heap.size, 0, none⟩ = some (.int .i64 (oldM ts)) by
        have := HT.out
        rw [List.take_of_length_le (by have := HL.out; omega)] at this
        exact cell_of_row _ _ 0 _ _ _ this)
      clear HT
      go_wp2_with fail
      refine (delete_passed (HO.out.below HB.out hhw) HL.out hn (by have := HB.out.size; omega) (oldM ts) w.heap.size hhw HR.out).mono ?_
      rintro e w2 ⟨v, rfl, o2, kp⟩
      have HO2 := hid o2
      have HK2 := hid ((Keeps.of_below (X := fun b => (Value.slice a n c).ownBlock = some b) HB.out).trans kp)
      clear o2 kp
      go_wp2_with fail
      go_ret
      exact ⟨_, rfl, HO2.out, HK2.out⟩
end Go.Proofs.Ytnhlfkffllbpiaa
