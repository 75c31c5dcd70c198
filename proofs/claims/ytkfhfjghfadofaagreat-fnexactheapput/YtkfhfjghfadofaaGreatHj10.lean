/- Rows of a heap, plain and in memory. No statement of its own; no conditions. -/
import Derived.Test.YtkfhfjghfadofaaGreatHi10
namespace Go.Proofs.YtkfhfjghfadofaaGreat
open Go.RowKit
set_option maxRecDepth 100000
structure Rw where
 p : Int
 s : Int
 t : Tu
def rw0 : Rw := ⟨0, 0, t0⟩
def textsR : List Rw → List (List Int)
 | [] => []
 | r :: rs => r.t.Z :: r.t.Y :: textsR rs
theorem textsR_len : ∀ rs : List Rw, (textsR rs).length = rs.length * 2
 | [] => rfl
 | r :: rs => by simp [textsR, textsR_len rs]; omega
theorem textsR_at : ∀ (rs : List Rw) (i : Nat), (textsR rs).getD (i * 2) [] = (rs.getD i rw0).t.Z ∧ (textsR rs).getD (i * 2 + 1) [] = (rs.getD i rw0).t.Y
 | [], i => by simp [textsR, rw0, t0]
 | r :: rs, 0 => by simp [textsR]
 | r :: rs, i + 1 => by
  have := textsR_at rs i
  rw [show (i + 1) * 2 = i * 2 + 1 + 1 by omega]
  simpa [textsR] using this
def cellsOne (r : Rw) (f : Nat × Nat) (x y : Value) : List Value := [.int .i64 r.p, .int .i64 r.s, .int .i64 r.t.A, .int .i64 r.t.B, .int .i64 r.t.K, .int .i64 r.t.N, .float .f64 f.1, x, .int .i64 r.t.L, .int .i64 r.t.M, .float .f64 f.2, y]
def cellsRw : List Rw → List (Nat × Nat) → List Value → List Value
 | r :: rs, f :: fs, x :: y :: xs => cellsOne r f x y ++ cellsRw rs fs xs
 | _, _, _ => []
theorem cellsRw_at : ∀ (rs : List Rw) (fs : List (Nat × Nat)) (xs : List Value) (i j : Nat), fs.length = rs.length → xs.length = rs.length * 2 → i < rs.length → j < 12 → (cellsRw rs fs xs)[i * 12 + j]? = (cellsOne (rs.getD i rw0) (fs.getD i (0, 0)) (xs.getD (i * 2) nilS) (xs.getD (i * 2 + 1) nilS))[j]?
 | r :: rs, f :: fs, x :: y :: xs, 0, j, _, _, _, hj => by
  simp only [cellsRw, Nat.zero_mul, Nat.zero_add]
  rw [List.getElem?_append_left (by simp [cellsOne]; omega)]
  rfl
 | r :: rs, f :: fs, x :: y :: xs, i + 1, j, h1, h2, hi, hj => by
  have := cellsRw_at rs fs xs i j (by simpa using h1) (by simp at h2; omega) (by simpa using hi) hj
  simp only [cellsRw]
  rw [List.getElem?_append_right (by simp [cellsOne]; omega), show (i + 1) * 12 + j - (cellsOne r f x y).length = i * 12 + j by simp [cellsOne]; omega, this]
  rw [show (i + 1) * 2 + 1 = i * 2 + 1 + 1 + 1 by omega, show (i + 1) * 2 = i * 2 + 1 + 1 by omega]
  simp only [List.getD_cons_succ]
 | r :: rs, f :: fs, [x], i, j, h1, h2, _, _ => by simp at h2; omega
 | r :: rs, f :: fs, [], i, j, h1, h2, _, _ => by simp at h2
 | [], _, _, i, j, _, _, hi, _ => by cases hi
def SameR (r : Rw) (f : Nat × Nat) : Prop := Same r.t.F f.1 ∧ Same r.t.H f.2 ∧ f.1 < 18446744073709551616 ∧ f.2 < 18446744073709551616
structure OwnRw (w : World) (lo hi : Nat) (v : Value) (rs : List Rw) : Prop where
 own : ∃ (fs : List (Nat × Nat)) (xs : List Value), w.ownsRow lo 47 12 v rs.length (cellsRw rs fs xs) ∧ fs.length = rs.length ∧ Bands w lo hi xs (textsR rs) ∧ ∀ i, i < rs.length → SameR (rs.getD i rw0) (fs.getD i (0, 0))
 top : ∀ g, v.ownBlock = some g → g < hi
section
variable {w w' : World} {lo hi : Nat} {v : Value} {rs : List Rw}
theorem OwnRw.slice (h : OwnRw w lo hi v rs) : ∃ a c, v = .slice a rs.length c := by
 obtain ⟨fs, xs, o, _⟩ := h.own
 exact own_sl o
theorem OwnRw.agree (h : OwnRw w lo hi v rs) (ha : Agree lo hi w w') : OwnRw w' lo hi v rs := by
 obtain ⟨fs, xs, o, hf, b, q⟩ := h.own
 exact ⟨⟨fs, xs, owns_agree o ha (fun g hg => ⟨(o.lt g hg).1, h.top g hg⟩), hf, b.agree ha, q⟩, h.top⟩
theorem OwnRw.below (h : OwnRw w lo hi v rs) {B : Nat} (hb : Below B w w') (hB : hi ≤ B) : OwnRw w' lo hi v rs := h.agree (Agree.below hb hB)
theorem OwnRw.mono {lo' hi' : Nat} (h : OwnRw w lo hi v rs) (hl : lo' ≤ lo) (hh : hi ≤ hi') : OwnRw w lo' hi' v rs := by
 obtain ⟨fs, xs, o, hf, b, q⟩ := h.own
 exact ⟨⟨fs, xs, owns_lower o hl, hf, b.mono hl hh, q⟩, fun g hg => Nat.lt_of_lt_of_le (h.top g hg) hh⟩
end
end Go.Proofs.YtkfhfjghfadofaaGreat
