/- Lists of records: their cells, what reads as one, one of the call's own, what marks make of one. No conditions. -/
import Derived.Test.YtdlddgejpcbofaaRt
import Derived.Test.YtdlddgejpcbofaaRp
import Derived.Test.YtdlddgejpcbofaaRs
namespace Go.Proofs.Ytdlddgejpcbofaa
open Go.RowKit
set_option maxRecDepth 100000

theorem mapD_getD (rs : List Rc) (i : Nat) : (rs.map (·.D)).getD i [] = (rs.getD i r0).D := by
  by_cases h : i < rs.length
  · simp [List.getD, h]
  · rw [List.getD_eq_getElem?_getD, List.getD_eq_getElem?_getD, List.getElem?_eq_none (by simpa using h), List.getElem?_eq_none (by omega)]; rfl
/-- Six cells that hold a record whose bytes stand in v. -/
structure Cells6 (w : World) (b off : Nat) (r : Rc) (v : Value) : Prop where
  c0 : w.cell? ⟨b, off + 0, none⟩ = some (.int .i64 r.K)
  c1 : w.cell? ⟨b, off + 1, none⟩ = some (.int .i64 r.L)
  c2 : w.cell? ⟨b, off + 2, none⟩ = some (.int .i64 r.X)
  c3 : w.cell? ⟨b, off + 3, none⟩ = some (.int .i64 r.P)
  c4 : w.cell? ⟨b, off + 4, none⟩ = some (.int .i64 r.S)
  c5 : w.cell? ⟨b, off + 5, none⟩ = some v
theorem Cells6.below {w w' : World} {b off : Nat} {r : Rc} {v : Value} (h : Cells6 w b off r v) {B : Nat} (hb : Below B w w') (hB : w.heap.size ≤ B) : Cells6 w' b off r v := by
  have hl : b < w.heap.size := World.block_lt_of_cell? w _ h.c0
  exact ⟨(hb.cell (p := ⟨b, off + 0, none⟩) (by simp; omega)).trans h.c0, (hb.cell (p := ⟨b, off + 1, none⟩) (by simp; omega)).trans h.c1, (hb.cell (p := ⟨b, off + 2, none⟩) (by simp; omega)).trans h.c2, (hb.cell (p := ⟨b, off + 3, none⟩) (by simp; omega)).trans h.c3, (hb.cell (p := ⟨b, off + 4, none⟩) (by simp; omega)).trans h.c4, (hb.cell (p := ⟨b, off + 5, none⟩) (by simp; omega)).trans h.c5⟩
/-- A list of records, read. -/
structure ReadsR (w : World) (ad : Option Addr) (rs : List Rc) : Prop where
  cells : rs.length = 0 ∨ ∃ b off, ad = some ⟨b, off, none⟩ ∧ ∀ i, i < rs.length → ∃ v, Cells6 w b (off + i * 6) (rs.getD i r0) v ∧ Row w v (rs.getD i r0).D
theorem ReadsR.below {w w' : World} {ad : Option Addr} {rs : List Rc} (h : ReadsR w ad rs) {B : Nat} (hb : Below B w w') (hB : w.heap.size ≤ B) : ReadsR w' ad rs := by
  refine ⟨?_⟩
  rcases h.cells with h0 | ⟨b, off, rfl, hc⟩
  · exact .inl h0
  · refine .inr ⟨b, off, rfl, fun i hi => ?_⟩
    obtain ⟨v, h1, h2⟩ := hc i hi
    exact ⟨v, h1.below hb hB, h2.below hb hB⟩

def cellsR : List Rc → List Value → List Value
  | r :: rs, y :: ys => .int .i64 r.K :: .int .i64 r.L :: .int .i64 r.X :: .int .i64 r.P :: .int .i64 r.S :: y :: cellsR rs ys
  | _, _ => []
theorem cellsR_length : ∀ (rs : List Rc) (ys : List Value), ys.length = rs.length → (cellsR rs ys).length = rs.length * 6
  | [], [], _ => rfl
  | r :: rs, y :: ys, h => by
    have := cellsR_length rs ys (by simpa using h)
    simp only [cellsR, List.length_cons]
    omega
theorem cellsR_at : ∀ (rs : List Rc) (ys : List Value) (i : Nat), ys.length = rs.length → i < rs.length → (cellsR rs ys)[i * 6 + 0]? = some (.int .i64 (rs.getD i r0).K) ∧ (cellsR rs ys)[i * 6 + 1]? = some (.int .i64 (rs.getD i r0).L) ∧ (cellsR rs ys)[i * 6 + 2]? = some (.int .i64 (rs.getD i r0).X) ∧ (cellsR rs ys)[i * 6 + 3]? = some (.int .i64 (rs.getD i r0).P) ∧ (cellsR rs ys)[i * 6 + 4]? = some (.int .i64 (rs.getD i r0).S) ∧ (cellsR rs ys)[i * 6 + 5]? = some (ys.getD i nilS)
  | r :: rs, y :: ys, 0, _, _ => by simp [cellsR]
  | r :: rs, y :: ys, i + 1, h, hi => by
    have := cellsR_at rs ys i (by simpa using h) (by simpa using hi)
    simp only [cellsR, List.getD_cons_succ]
    have e : ∀ j, (i + 1) * 6 + j = i * 6 + j + 1 + 1 + 1 + 1 + 1 + 1 := by intro j; omega
    rw [e 0, e 1, e 2, e 3, e 4, e 5]
    simp only [List.getElem?_cons_succ]
    exact this
theorem cellsR_snoc : ∀ (rs : List Rc) (ys : List Value) (r : Rc) (y : Value), ys.length = rs.length → cellsR (rs ++ [r]) (ys ++ [y]) = cellsR rs ys ++ [.int .i64 r.K, .int .i64 r.L, .int .i64 r.X, .int .i64 r.P, .int .i64 r.S, y]
  | [], [], r, y, _ => rfl
  | q :: rs, x :: ys, r, y, h => by
    have := cellsR_snoc rs ys r y (by simpa using h)
    simp only [List.cons_append, cellsR, this]
theorem cellsR_set : ∀ (rs : List Rc) (ys : List Value) (k : Nat) (r : Rc) (y : Value), ys.length = rs.length → k < rs.length → (((((((cellsR rs ys).set (k * 6 + 0) (.int .i64 r.K)).set (k * 6 + 1) (.int .i64 r.L)).set (k * 6 + 2) (.int .i64 r.X)).set (k * 6 + 3) (.int .i64 r.P)).set (k * 6 + 4) (.int .i64 r.S)).set (k * 6 + 5) y) = cellsR (rs.set k r) (ys.set k y)
  | q :: rs, x :: ys, 0, r, y, _, _ => by simp [cellsR]
  | q :: rs, x :: ys, k + 1, r, y, h, hk => by
    have ih := cellsR_set rs ys k r y (by simpa using h) (by simpa using hk)
    have e : ∀ j, (k + 1) * 6 + j = k * 6 + j + 1 + 1 + 1 + 1 + 1 + 1 := by intro j; omega
    rw [e 0, e 1, e 2, e 3, e 4, e 5]
    simp only [cellsR, List.set_cons_succ, Nat.add_zero] at ih ⊢
    rw [ih]
theorem cellsR_set5 : ∀ (rs : List Rc) (ys : List Value) (k : Nat) (r : Rc), ys.length = rs.length → k < rs.length → ((((((cellsR rs ys).set (k * 6 + 0) (.int .i64 r.K)).set (k * 6 + 1) (.int .i64 r.L)).set (k * 6 + 2) (.int .i64 r.X)).set (k * 6 + 3) (.int .i64 r.P)).set (k * 6 + 4) (.int .i64 r.S)) = cellsR (rs.set k r) ys
  | q :: rs, x :: ys, 0, r, _, _ => by simp [cellsR]
  | q :: rs, x :: ys, k + 1, r, h, hk => by
    have ih := cellsR_set5 rs ys k r (by simpa using h) (by simpa using hk)
    have e : ∀ j, (k + 1) * 6 + j = k * 6 + j + 1 + 1 + 1 + 1 + 1 + 1 := by intro j; omega
    rw [e 0, e 1, e 2, e 3, e 4]
    simp only [cellsR, List.set_cons_succ, Nat.add_zero] at ih ⊢
    rw [ih]

/-- A list of records of the call's own, within the blocks lo .. hi. -/
structure OwnR (w : World) (lo hi : Nat) (v : Value) (rs : List Rc) : Prop where
  own : ∃ ys : List Value, ys.length = rs.length ∧ Bands w lo hi ys (rs.map (·.D)) ∧ w.ownsRow lo 41 6 v rs.length (cellsR rs ys)
  top : ∀ g, v.ownBlock = some g → g < hi
theorem ReadsR.own {w : World} {lo lo' hi : Nat} {v : Value} {rs : List Rc} {ys : List Value} (hy : ys.length = rs.length) (o : w.ownsRow lo 41 6 v rs.length (cellsR rs ys)) (hB : Bands w lo' hi ys (rs.map (·.D))) : ∃ a c, v = .slice a rs.length c ∧ ReadsR w a rs := by
  rcases o.2 with ⟨rfl, h0⟩ | ⟨g, cap, cur, rfl, _⟩
  · exact ⟨none, 0, by rw [h0], ⟨.inl h0⟩⟩
  · refine ⟨_, cap, rfl, ⟨.inr ⟨g, 0, rfl, fun i hi => ⟨ys.getD i nilS, ?_, ?_⟩⟩⟩⟩
    · obtain ⟨e0, e1, e2, e3, e4, e5⟩ := cellsR_at rs ys i hy hi
      rw [Nat.zero_add]
      exact ⟨(o.cellAt (i * 6 + 0) (by omega)).trans e0, (o.cellAt (i * 6 + 1) (by omega)).trans e1, (o.cellAt (i * 6 + 2) (by omega)).trans e2, (o.cellAt (i * 6 + 3) (by omega)).trans e3, (o.cellAt (i * 6 + 4) (by omega)).trans e4, (o.cellAt (i * 6 + 5) (by omega)).trans e5⟩
    · have := hB.row i
      rw [mapD_getD] at this
      exact this
theorem OwnR.reads {w : World} {lo hi : Nat} {v : Value} {rs : List Rc} (h : OwnR w lo hi v rs) : ∃ a c, v = .slice a rs.length c ∧ ReadsR w a rs := by
  obtain ⟨ys, hy, hB, o⟩ := h.own
  exact ReadsR.own hy o hB
theorem OwnR.rd {w : World} {lo hi : Nat} {a : Option Addr} {n c : Nat} {rs : List Rc} (h : OwnR w lo hi (.slice a n c) rs) : ReadsR w a rs := by
  obtain ⟨a', c', e, r⟩ := h.reads
  obtain ⟨rfl, _, _⟩ := Value.slice.inj e
  exact r
theorem OwnR.agree {w w' : World} {lo hi : Nat} {v : Value} {rs : List Rc} (h : OwnR w lo hi v rs) (ha : Agree lo hi w w') : OwnR w' lo hi v rs := by
  obtain ⟨ys, hy, hB, o⟩ := h.own
  exact ⟨⟨ys, hy, hB.agree ha, owns_agree o ha (fun g hg => ⟨(o.lt g hg).1, h.top g hg⟩)⟩, h.top⟩
theorem OwnR.below {w w' : World} {lo hi : Nat} {v : Value} {rs : List Rc} (h : OwnR w lo hi v rs) {B : Nat} (hb : Below B w w') (hB : hi ≤ B) : OwnR w' lo hi v rs := h.agree (Agree.below hb hB)
theorem OwnR.mono {w : World} {lo hi lo' hi' : Nat} {v : Value} {rs : List Rc} (h : OwnR w lo hi v rs) (hl : lo' ≤ lo) (hh : hi ≤ hi') : OwnR w lo' hi' v rs := by
  obtain ⟨ys, hy, hB, o⟩ := h.own
  exact ⟨⟨ys, hy, hB.mono hl hh, owns_lower o hl⟩, fun g hg => Nat.lt_of_lt_of_le (h.top g hg) hh⟩
theorem OwnR.nil (w : World) (lo hi : Nat) : OwnR w lo hi (.slice none 0 0) [] := ⟨⟨[], rfl, Bands.nil _ _ _, World.ownsRow_nil _ _ _ _⟩, fun g hg => (by cases hg)⟩

def tr (rs : List Rc) : Nat := 5 * rs.length + tot (rs.map (·.D))
def mkO (k : Int) (m : Nat) : Rc := ⟨k, k + 1, k + 2, k + 3, k + 4, marks (k + 5) m⟩
def mkR : Int → List Rc → List Rc
  | _, [] => []
  | k, r :: rs => mkO k r.D.length :: mkR (k + 5 + r.D.length) rs
theorem mkR_length : ∀ (k : Int) (rs : List Rc), (mkR k rs).length = rs.length
  | _, [] => rfl
  | k, r :: rs => by simp [mkR, mkR_length]
theorem tr_cons (r : Rc) (rs : List Rc) : tr (r :: rs) = 5 + r.D.length + tr rs := by simp [tr, tot]; omega
theorem mkR_at : ∀ (k : Int) (rs : List Rc) (i : Nat), i < rs.length → (mkR k rs).getD i r0 = mkO (k + tr (rs.take i)) (rs.getD i r0).D.length
  | k, r :: rs, 0, _ => by simp [mkR, tr, tot]
  | k, r :: rs, i + 1, h => by
    have := mkR_at (k + 5 + r.D.length) rs i (by simpa using h)
    simp only [mkR, List.getD_cons_succ, List.take_succ_cons, tr_cons]
    rw [this]
    congr 1
    omega
theorem tr_step (rs : List Rc) (k : Nat) (h : k < rs.length) : tr (rs.take (k + 1)) = tr (rs.take k) + 5 + (rs.getD k r0).D.length := by
  have h1 := tot_step (rs.map (·.D)) k (by simpa using h)
  rw [mapD_getD, ← List.map_take, ← List.map_take] at h1
  unfold tr
  rw [h1, List.length_take, List.length_take]
  omega
theorem tr_take (rs : List Rc) (k : Nat) : tr (rs.take k) ≤ tr rs := by
  have h1 := tot_take (rs.map (·.D)) k
  rw [← List.map_take] at h1
  unfold tr
  rw [List.length_take]
  omega
theorem mkR_snoc (k : Int) (rs : List Rc) (i : Nat) (h : i < rs.length) : mkR k (rs.take (i + 1)) = mkR k (rs.take i) ++ [mkO (k + tr (rs.take i)) (rs.getD i r0).D.length] := by
  induction rs generalizing k i with
  | nil => simp at h
  | cons r rs ih =>
    cases i with
    | zero => simp [mkR, tr, tot]
    | succ i =>
      have := ih (k + 5 + r.D.length) i (by simpa using h)
      simp only [List.take_succ_cons, mkR, List.getD_cons_succ, tr_cons, List.cons_append]
      rw [this, show k + 5 + (r.D.length : Int) + (tr (List.take i rs) : Int) = k + ((5 + r.D.length + tr (List.take i rs) : Nat) : Int) by omega]
theorem set_mkR (k : Int) (rs : List Rc) (i : Nat) (h : i < rs.length) : (mkR k (rs.take i) ++ rs.drop i).set i (mkO (k + tr (rs.take i)) (rs.getD i r0).D.length) = mkR k (rs.take (i + 1)) ++ rs.drop (i + 1) := by
  have hl : (mkR k (rs.take i)).length = i := by rw [mkR_length, List.length_take]; omega
  rw [List.set_append_right _ _ (by omega), hl, Nat.sub_self, List.drop_eq_getElem_cons h, List.set_cons_zero, mkR_snoc k rs i h]
  simp
theorem mkdropR_at (k : Int) (rs : List Rc) (i : Nat) (h : i < rs.length) : (mkR k (rs.take i) ++ rs.drop i).getD i r0 = rs.getD i r0 := by
  have hl : (mkR k (rs.take i)).length = i := by rw [mkR_length, List.length_take]; omega
  rw [getD_app, if_neg (by omega), hl, Nat.sub_self]
  simp [List.getD]
theorem cellR_at {w : World} {lo n : Nat} {g cap : Nat} {rs : List Rc} {ys : List Value} (hl : rs.length = n) (hy : ys.length = n) (o : w.ownsRow lo 41 6 (.slice (some ⟨g, 0, none⟩) n cap) n (cellsR rs ys)) {i : Nat} (hi : i < n) : Cells6 w g (i * 6) (rs.getD i r0) (ys.getD i nilS) := by
  obtain ⟨e0, e1, e2, e3, e4, e5⟩ := cellsR_at rs ys i (by omega) (by omega)
  exact ⟨(o.cellAt (i * 6 + 0) (by omega)).trans e0, (o.cellAt (i * 6 + 1) (by omega)).trans e1, (o.cellAt (i * 6 + 2) (by omega)).trans e2, (o.cellAt (i * 6 + 3) (by omega)).trans e3, (o.cellAt (i * 6 + 4) (by omega)).trans e4, (o.cellAt (i * 6 + 5) (by omega)).trans e5⟩
theorem takeR_snoc (rs : List Rc) (k : Nat) (h : k < rs.length) : rs.take (k + 1) = rs.take k ++ [rs.getD k r0] := by
  rw [List.take_succ_eq_append_getElem h]; simp [List.getD, h]
end Go.Proofs.Ytdlddgejpcbofaa
