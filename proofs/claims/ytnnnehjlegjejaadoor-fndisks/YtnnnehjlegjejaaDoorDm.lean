/- Disks in memory: what is read of them, what the call owns of them. No statement of its own; no conditions. -/
import Derived.Test.YtnnnehjlegjejaaDoorHelp
import Derived.Test.YtnnnehjlegjejaaDoorDk
import Derived.Test.YtnnnehjlegjejaaDoorDp
namespace Go.Proofs.YtnnnehjlegjejaaDoor
open Go.RowKit

theorem Tryd.info22 : (Tryd.prog.info? 22).map (fun i => (i.zero, i.size, i.bytes)) = some (some (.slice none 0 0), 1, 24) := by kernel_rfl
theorem Tryd.infoWr : (Tryd.prog.info? 40).map (fun i => (i.zero, i.size, i.bytes)) = some (some (.agg #[.int .i64 0, .slice none 0 0]), 2, 32) := by kernel_rfl

/-- A slice of byte slices, read. -/
structure ReadsS (w : World) (ad : Option Addr) (ss : List (List Int)) : Prop where
  cells : ss.length = 0 ∨ ∃ b off, ad = some ⟨b, off, none⟩ ∧ ∀ i, i < ss.length → ∃ v, w.cell? ⟨b, off + i, none⟩ = some v ∧ Row w v (ss.getD i [])
theorem ReadsS.below {w w' : World} {ad : Option Addr} {ss : List (List Int)} (h : ReadsS w ad ss) {B : Nat} (hb : Below B w w') (hB : w.heap.size ≤ B) : ReadsS w' ad ss := by
  refine ⟨?_⟩
  rcases h.cells with h0 | ⟨b, off, rfl, hc⟩
  · exact .inl h0
  · refine .inr ⟨b, off, rfl, fun i hi => ?_⟩
    obtain ⟨v, h1, h2⟩ := hc i hi
    have := World.block_lt_of_cell? w _ h1
    exact ⟨v, by rw [hb.cell (p := ⟨b, off + i, none⟩) (by simp at this ⊢; omega)]; exact h1, h2.below hb hB⟩

/-- A slice of writes, read. -/
structure ReadsW (w : World) (ad : Option Addr) (ws : List (Int × List Int)) : Prop where
  cells : ws.length = 0 ∨ ∃ b off, ad = some ⟨b, off, none⟩ ∧ ∀ i, i < ws.length → w.cell? ⟨b, off + i * 2, none⟩ = some (.int .i64 (ws.getD i w0).1) ∧ ∃ v, w.cell? ⟨b, off + i * 2 + 1, none⟩ = some v ∧ Row w v (ws.getD i w0).2
theorem ReadsW.below {w w' : World} {ad : Option Addr} {ws : List (Int × List Int)} (h : ReadsW w ad ws) {B : Nat} (hb : Below B w w') (hB : w.heap.size ≤ B) : ReadsW w' ad ws := by
  refine ⟨?_⟩
  rcases h.cells with h0 | ⟨b, off, rfl, hc⟩
  · exact .inl h0
  · refine .inr ⟨b, off, rfl, fun i hi => ?_⟩
    obtain ⟨h0, v, h1, h2⟩ := hc i hi
    have := World.block_lt_of_cell? w _ h1
    exact ⟨by rw [hb.cell (p := ⟨b, off + i * 2, none⟩) (by simp at this ⊢; omega)]; exact h0, v, by rw [hb.cell (p := ⟨b, off + i * 2 + 1, none⟩) (by simp at this ⊢; omega)]; exact h1, h2.below hb hB⟩

/-- A disk, read. -/
structure ReadsD (w : World) (aS aW : Option Addr) (ss : List (List Int)) (ws : List (Int × List Int)) : Prop where
  s : ReadsS w aS ss
  w : ReadsW w aW ws
theorem ReadsD.below {w w' : World} {aS aW : Option Addr} {ss : List (List Int)} {ws : List (Int × List Int)} (h : ReadsD w aS aW ss ws) {B : Nat} (hb : Below B w w') (hB : w.heap.size ≤ B) : ReadsD w' aS aW ss ws := ⟨h.s.below hb hB, h.w.below hb hB⟩

/-- The cells of writes. -/
def cellsW : List (Int × List Int) → List Value → List Value
  | p :: ws, y :: ys => .int .i64 p.1 :: y :: cellsW ws ys
  | _, _ => []
theorem cellsW_length : ∀ (ws : List (Int × List Int)) (ys : List Value), ys.length = ws.length → (cellsW ws ys).length = ws.length * 2
  | [], [], _ => rfl
  | p :: ws, y :: ys, h => by
    have := cellsW_length ws ys (by simpa using h)
    simp only [cellsW, List.length_cons]
    omega
theorem cellsW_at : ∀ (ws : List (Int × List Int)) (ys : List Value) (i : Nat), ys.length = ws.length → i < ws.length → (cellsW ws ys)[i * 2]? = some (.int .i64 (ws.getD i w0).1) ∧ (cellsW ws ys)[i * 2 + 1]? = some (ys.getD i nilS)
  | p :: ws, y :: ys, 0, _, _ => by simp [cellsW]
  | p :: ws, y :: ys, i + 1, h, hi => by
    have := cellsW_at ws ys i (by simpa using h) (by simpa using hi)
    simp only [cellsW, List.getD_cons_succ]
    rw [show (i + 1) * 2 = i * 2 + 1 + 1 by omega, List.getElem?_cons_succ, List.getElem?_cons_succ, show i * 2 + 1 + 1 + 1 = (i * 2 + 1) + 1 + 1 by omega, List.getElem?_cons_succ, List.getElem?_cons_succ]
    exact this
theorem cellsW_snoc : ∀ (ws : List (Int × List Int)) (ys : List Value) (p : Int × List Int) (y : Value), ys.length = ws.length → cellsW (ws ++ [p]) (ys ++ [y]) = cellsW ws ys ++ [.int .i64 p.1, y]
  | [], [], p, y, _ => rfl
  | q :: ws, x :: ys, p, y, h => by
    have := cellsW_snoc ws ys p y (by simpa using h)
    simp only [List.cons_append, cellsW, this]
theorem cellsW_fst {ws ws' : List (Int × List Int)} : ∀ {ys : List Value}, ws.map (·.1) = ws'.map (·.1) → cellsW ws ys = cellsW ws' ys := by
  induction ws generalizing ws' with
  | nil => intro ys h; cases ws' with
    | nil => rfl
    | cons _ _ => simp at h
  | cons p ws ih =>
    intro ys h
    cases ws' with
    | nil => simp at h
    | cons q ws' =>
      simp only [List.map_cons, List.cons.injEq] at h
      cases ys with
      | nil => rfl
      | cons y ys => simp only [cellsW, h.1, ih h.2]

/-- A disk of the call's own, within the blocks lo .. hi. -/
structure OwnD (w : World) (lo hi : Nat) (vS vW : Value) (ss : List (List Int)) (ws : List (Int × List Int)) : Prop where
  own : ∃ xs ys : List Value, xs.length = ss.length ∧ ys.length = ws.length ∧ Bands w lo hi (xs ++ ys) (ss ++ ws.map (·.2)) ∧ w.ownsRow lo 22 1 vS ss.length xs ∧ w.ownsRow lo 40 2 vW ws.length (cellsW ws ys)
  topS : ∀ g, vS.ownBlock = some g → g < hi
  topW : ∀ g, vW.ownBlock = some g → g < hi

theorem map2_getD (ws : List (Int × List Int)) (i : Nat) : (ws.map (·.2)).getD i [] = (ws.getD i w0).2 := by
  by_cases h : i < ws.length
  · simp [List.getD, h]
  · rw [List.getD_eq_getElem?_getD, List.getD_eq_getElem?_getD, List.getElem?_eq_none (by simpa using h), List.getElem?_eq_none (by omega)]; rfl

theorem ReadsS.own {w : World} {lo lo' hi : Nat} {vS : Value} {ss : List (List Int)} {xs : List Value} (o : w.ownsRow lo 22 1 vS ss.length xs) (hB : Bands w lo' hi xs ss) : ∃ a c, vS = .slice a ss.length c ∧ ReadsS w a ss := by
  rcases o.2 with ⟨rfl, h0⟩ | ⟨g, cap, cur, rfl, _⟩
  · exact ⟨none, 0, by rw [h0], ⟨.inl h0⟩⟩
  · refine ⟨_, cap, rfl, ⟨.inr ⟨g, 0, rfl, fun i hi => ⟨xs.getD i nilS, ?_, hB.row i⟩⟩⟩⟩
    rw [Nat.zero_add, o.cellAt i (by omega), List.getD_eq_getElem?_getD]
    have hl := hB.len
    rw [List.getElem?_eq_getElem (by omega)]
    rfl
theorem ReadsW.own {w : World} {lo lo' hi : Nat} {vW : Value} {ws : List (Int × List Int)} {ys : List Value} (hy : ys.length = ws.length) (o : w.ownsRow lo 40 2 vW ws.length (cellsW ws ys)) (hB : Bands w lo' hi ys (ws.map (·.2))) : ∃ a c, vW = .slice a ws.length c ∧ ReadsW w a ws := by
  rcases o.2 with ⟨rfl, h0⟩ | ⟨g, cap, cur, rfl, _⟩
  · exact ⟨none, 0, by rw [h0], ⟨.inl h0⟩⟩
  · refine ⟨_, cap, rfl, ⟨.inr ⟨g, 0, rfl, fun i hi => ?_⟩⟩⟩
    have hc := cellsW_at ws ys i hy hi
    refine ⟨?_, ys.getD i nilS, ?_, ?_⟩
    · rw [Nat.zero_add, o.cellAt (i * 2) (by omega)]; exact hc.1
    · rw [Nat.zero_add, o.cellAt (i * 2 + 1) (by omega)]; exact hc.2
    · have := hB.row i
      rw [map2_getD] at this
      exact this
theorem OwnD.reads {w : World} {lo hi : Nat} {vS vW : Value} {ss : List (List Int)} {ws : List (Int × List Int)} (h : OwnD w lo hi vS vW ss ws) :
    ∃ aS cS aW cW, vS = .slice aS ss.length cS ∧ vW = .slice aW ws.length cW ∧ ReadsD w aS aW ss ws := by
  obtain ⟨xs, ys, hx, hy, hB, oS, oW⟩ := h.own
  obtain ⟨aS, cS, e1, r1⟩ := ReadsS.own oS (hB.left hx)
  obtain ⟨aW, cW, e2, r2⟩ := ReadsW.own hy oW (hB.right hx)
  exact ⟨aS, cS, aW, cW, e1, e2, r1, r2⟩
theorem OwnD.rd {w : World} {lo hi : Nat} {aS aW : Option Addr} {n m cS cW : Nat} {ss : List (List Int)} {ws : List (Int × List Int)} (h : OwnD w lo hi (.slice aS n cS) (.slice aW m cW) ss ws) : ReadsD w aS aW ss ws := by
  obtain ⟨a, c, a', c', e1, e2, r⟩ := h.reads
  obtain ⟨rfl, _, _⟩ := Value.slice.inj e1
  obtain ⟨rfl, _, _⟩ := Value.slice.inj e2
  exact r
theorem OwnD.agree {w w' : World} {lo hi : Nat} {vS vW : Value} {ss : List (List Int)} {ws : List (Int × List Int)} (h : OwnD w lo hi vS vW ss ws) (ha : Agree lo hi w w') : OwnD w' lo hi vS vW ss ws := by
  obtain ⟨xs, ys, hx, hy, hB, oS, oW⟩ := h.own
  exact ⟨⟨xs, ys, hx, hy, hB.agree ha, owns_agree oS ha (fun g hg => ⟨(oS.lt g hg).1, h.topS g hg⟩), owns_agree oW ha (fun g hg => ⟨(oW.lt g hg).1, h.topW g hg⟩)⟩, h.topS, h.topW⟩
theorem OwnD.below {w w' : World} {lo hi : Nat} {vS vW : Value} {ss : List (List Int)} {ws : List (Int × List Int)} (h : OwnD w lo hi vS vW ss ws) {B : Nat} (hb : Below B w w') (hB : hi ≤ B) : OwnD w' lo hi vS vW ss ws := h.agree (Agree.below hb hB)
theorem OwnD.mono {w : World} {lo hi lo' hi' : Nat} {vS vW : Value} {ss : List (List Int)} {ws : List (Int × List Int)} (h : OwnD w lo hi vS vW ss ws) (hl : lo' ≤ lo) (hh : hi ≤ hi') : OwnD w lo' hi' vS vW ss ws := by
  obtain ⟨xs, ys, hx, hy, hB, oS, oW⟩ := h.own
  exact ⟨⟨xs, ys, hx, hy, hB.mono hl hh, owns_lower oS hl, owns_lower oW hl⟩, fun g hg => Nat.lt_of_lt_of_le (h.topS g hg) hh, fun g hg => Nat.lt_of_lt_of_le (h.topW g hg) hh⟩
theorem OwnD.nil (w : World) (lo hi : Nat) : OwnD w lo hi (.slice none 0 0) (.slice none 0 0) [] [] :=
  ⟨⟨[], [], rfl, rfl, Bands.nil _ _ _, World.ownsRow_nil _ _ _ _, World.ownsRow_nil _ _ _ _⟩, fun g hg => (by cases hg), fun g hg => (by cases hg)⟩
end Go.Proofs.YtnnnehjlegjejaaDoor
