/- Records that are being drawn: their row, their data; what stays. No statement of its own; no conditions. -/
import Derived.Test.YtgdnjpdheghfoaaRdb
import Derived.Test.YtgdnjpdheghfoaaRl
namespace Go.Proofs.Ytgdnjpdheghfoaa
open Go.RowKit

/-- Records in a row of the call's own, each with its data in some row of bytes. -/
structure Rs (B : Nat) (wr : World) (v : Value) (rs : List Rc) (ys : List Value) : Prop where
  ly : ys.length = rs.length
  own : wr.ownsRow B 36 6 v rs.length (cellsR rs ys)
  row : ∀ i, i < rs.length → Ry wr (ys.getD i nilS) (rs.getD i r0).D
section
variable {B : Nat} {wr w' : World} {v : Value} {rs : List Rc} {ys : List Value}
theorem Rs.nil (B : Nat) (wr : World) : Rs B wr (.slice none 0 0) [] [] := ⟨rfl, World.ownsRow_nil _ _ _ _, fun i hi => by simp at hi⟩
/-- A block beside the records' row that holds no bytes is written, or new blocks are laid. -/
theorem Rs.keep (h : Rs B wr v rs ys) {row : Option Nat} (hg : wr.grownBy w' row) (hr : ∀ k, row = some k → v.ownBlock ≠ some k ∧ ∃ cs t fz, wr.heap[k]? = some (.cells cs t fz) ∧ t ≠ 5) : Rs B w' v rs ys := by
  refine ⟨h.ly, h.own.kept hg ?_, fun i hi => (h.row i hi).grown hg (fun k hk => (hr k hk).2)⟩
  cases hrow : row with
  | none => cases hv : v.ownBlock with
    | none => exact .inl rfl
    | some j => exact .inr (by simp)
  | some k => exact .inr (hr k hrow).1
theorem Rs.still (h : Rs B wr v rs ys) (hs : Still wr w') : Rs B w' v rs ys :=
  ⟨h.ly, owns_agree (lo := 0) (hi := wr.heap.size) h.own (fun k _ _ => by rw [hs.heap]) (fun g hg => ⟨Nat.zero_le _, (h.own.lt g hg).2⟩), fun i hi => (h.row i hi).still hs⟩
theorem Rs.cursor {g : Nat} {ad : Option Addr} {n cap : Nat} {zs : List Int} (h : Rs B wr v rs ys) (hB : g < B) (c : Cur wr g ad n cap zs) (hg : wr.grownBy w' (some g)) : Rs B w' v rs ys := by
  obtain ⟨i, hh, _, hrow⟩ := c.row
  refine h.keep hg fun k hk => ?_
  obtain rfl := Option.some.inj hk
  exact ⟨fun e => by have := (h.own.lt _ e).1; omega, _, _, _, hrow, by decide⟩
theorem Rs.alloc (h : Rs B wr v rs ys) (o : Obj) : Rs B (wr.alloc o) v rs ys := h.keep (World.grownBy_alloc wr o none) fun k hk => by cases hk
theorem Rs.form (h : Rs B wr v rs ys) : ∃ a c, v = .slice a rs.length c := by
  rcases h.own.2 with ⟨h1, h2⟩ | ⟨g', cap', cur, h1, _⟩
  · exact ⟨none, 0, by rw [h1, h2]⟩
  · exact ⟨_, _, h1⟩
/-- One record more. -/
theorem Rs.app (h : Rs B wr v rs ys) {r : Rc} {u : Value} (hu : Ry wr u r.D) {v' : Value} (o : w'.ownsRow B 36 6 v' (rs.length + 1) (cellsR rs ys ++ [.int .i64 r.K, .int .i64 r.L, .int .i64 r.X, .int .i64 r.P, .int .i64 r.S, u])) (hg : wr.grownBy w' v.ownBlock) : Rs B w' v' (rs ++ [r]) (ys ++ [u]) := by
  have nb : ∀ k, v.ownBlock = some k → ∃ cs t fz, wr.heap[k]? = some (.cells cs t fz) ∧ t ≠ 5 := fun k hk => by
    rcases h.own.2 with ⟨h1, _⟩ | ⟨g', cap', cur, h1, _, h2, _⟩
    · rw [h1] at hk; cases hk
    · rw [h1] at hk
      obtain rfl := Option.some.inj hk
      exact ⟨_, _, _, h2, by decide⟩
  refine ⟨by simp [h.ly], by rw [cellsR_snoc rs ys r u h.ly, List.length_append]; exact o, fun i hi => ?_⟩
  rw [getD_app, getD_app, h.ly]
  simp only [List.length_append, List.length_cons, List.length_nil] at hi
  split
  · rename_i hlt; exact (h.row i hlt).grown hg nb
  · rw [show i - rs.length = 0 by omega]; exact hu.grown hg nb
theorem Rs.rd (h : Rs B wr v rs ys) : ∃ a c, v = .slice a rs.length c ∧ ReadsR wr a rs := by
  have o := h.own
  rcases o.2 with ⟨e, h0⟩ | ⟨b, c, cur, e, _⟩
  · exact ⟨none, 0, by rw [e, h0], ⟨.inl h0⟩⟩
  · subst e
    refine ⟨_, c, rfl, ⟨.inr ⟨b, 0, rfl, fun i hi => ⟨ys.getD i nilS, ?_, (h.row i hi).row⟩⟩⟩⟩
    obtain ⟨e0, e1, e2, e3, e4, e5⟩ := cellsR_at rs ys i h.ly hi
    rw [Nat.zero_add]
    exact ⟨(o.cellAt (i * 6 + 0) (by omega)).trans e0, (o.cellAt (i * 6 + 1) (by omega)).trans e1, (o.cellAt (i * 6 + 2) (by omega)).trans e2, (o.cellAt (i * 6 + 3) (by omega)).trans e3, (o.cellAt (i * 6 + 4) (by omega)).trans e4, (o.cellAt (i * 6 + 5) (by omega)).trans e5⟩
/-- A record's number is written. -/
theorem cellsR_setL : ∀ (rs : List Rc) (ys : List Value) (i : Nat) (L : Int), ys.length = rs.length → i < rs.length → (cellsR rs ys).set (i * 6 + 1) (.int .i64 L) = cellsR (rs.set i { rs.getD i r0 with L := L }) ys
  | r :: rs, y :: ys, 0, L, _, _ => by simp [cellsR]
  | r :: rs, y :: ys, i + 1, L, h, hi => by
    have := cellsR_setL rs ys i L (by simpa using h) (by simpa using hi)
    rw [show (i + 1) * 6 + 1 = i * 6 + 1 + 6 by omega]
    simp only [cellsR, List.set_cons_succ, List.getD_cons_succ]
    rw [this]
theorem Rs.setL {b c m : Nat} (h : Rs B wr (.slice (some ⟨b, 0, none⟩) m c) rs ys) {i : Nat} (hi : i < rs.length) (L : Int) : (∃ x, wr.cell? ⟨b, i * 6 + 1, none⟩ = some (.int .i64 x)) ∧ wr.frozen? ⟨b, i * 6 + 1, none⟩ = false ∧ Rs B (wr.setCell ⟨b, i * 6 + 1, none⟩ (.int .i64 L)) (.slice (some ⟨b, 0, none⟩) m c) (rs.set i { rs.getD i r0 with L := L }) ys ∧ wr.grownBy (wr.setCell ⟨b, i * 6 + 1, none⟩ (.int .i64 L)) (some b) := by
  have hm : m = rs.length := by
    rcases h.own.2 with ⟨h1, _⟩ | ⟨g', cap', cur, h1, _⟩
    · exact absurd (Value.slice.inj h1).1 (by simp)
    · exact (Value.slice.inj h1).2.1
  subst hm
  obtain ⟨e0, e1, e2, e3, e4, e5⟩ := cellsR_at rs ys i h.ly hi
  obtain ⟨o, hg⟩ := h.own.stored (i * 6 + 1) (.int .i64 L)
  rw [cellsR_setL rs ys i L h.ly hi] at o
  have nb : ∀ k, some b = some k → ∃ cs t fz, wr.heap[k]? = some (.cells cs t fz) ∧ t ≠ 5 := fun k hk => by
    obtain rfl := Option.some.inj hk
    rcases h.own.2 with ⟨h1, _⟩ | ⟨g', cap', cur, h1, _, h2, _⟩
    · exact absurd (Value.slice.inj h1).1 (by simp)
    · have := (Value.slice.inj h1).1
      simp only [Option.some.injEq, Addr.mk.injEq] at this
      obtain ⟨rfl, _⟩ := this
      exact ⟨_, _, _, h2, by decide⟩
  refine ⟨⟨_, (h.own.cellAt (i * 6 + 1) (by omega)).trans e1⟩, h.own.frozenAt _, ⟨by rw [List.length_set]; exact h.ly, by rw [List.length_set]; exact o, fun j hj => ?_⟩, hg⟩
  rw [List.length_set] at hj
  rw [getD_set' rs i j _ r0 hi]
  have hr := (h.row j hj).grown hg nb
  split
  · rename_i e; subst e; exact hr
  · exact hr
end
end Go.Proofs.Ytgdnjpdheghfoaa
