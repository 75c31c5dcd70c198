/- Rows of a heap, plain and in memory. No statement of its own; no conditions. -/
import Derived.Test.YtebhipicfgnajaaGreatHi10
namespace Go.Proofs.YtebhipicfgnajaaGreat
open Go.RowKit
set_option maxRecDepth 100000

structure Rw where
  p : Int
  s : Int
  t : Tu
def rw0 : Rw := ⟨0, 0, t0⟩
/-- The rows of a page's slots, from slot k on. -/
def rowsP (i : Nat) : Nat → List (List Int) → List Rw
  | _, [] => []
  | k, z :: zs => (if (readT z).ok = true then [⟨i, k, readT z⟩] else []) ++ rowsP i (k + 1) zs
def rowsG : Nat → List Pg → List Rw
  | _, [] => []
  | i, p :: ps => rowsP i 0 p.2 ++ rowsG (i + 1) ps
def rowsH (ps : List Pg) : List Rw := if okH ps = true then rowsG 0 ps else []
/-- The texts of rows: of each its key's and its value's. -/
def textsR : List Rw → List (List Int)
  | [] => []
  | r :: rs => r.t.Z :: r.t.Y :: textsR rs
theorem textsR_app : ∀ a b : List Rw, textsR (a ++ b) = textsR a ++ textsR b
  | [], b => rfl
  | r :: a, b => by simp [textsR, textsR_app a b]
theorem textsR_len : ∀ rs : List Rw, (textsR rs).length = rs.length * 2
  | [] => rfl
  | r :: rs => by simp [textsR, textsR_len rs]; omega
theorem textsR_at : ∀ (rs : List Rw) (i : Nat), (textsR rs).getD (i * 2) [] = (rs.getD i rw0).t.Z ∧ (textsR rs).getD (i * 2 + 1) [] = (rs.getD i rw0).t.Y
  | [], i => by simp [textsR, rw0, t0]
  | r :: rs, 0 => by simp [textsR]
  | r :: rs, i + 1 => by
    have := textsR_at rs i
    rw [show (i + 1) * 2 = i * 2 + 1 + 1 by omega]
    simpa [textsR] using this
/-- The cells of one row. -/
def cellsOne (r : Rw) (f : Nat × Nat) (x y : Value) : List Value := [.int .i64 r.p, .int .i64 r.s, .int .i64 r.t.A, .int .i64 r.t.B, .int .i64 r.t.K, .int .i64 r.t.N, .float .f64 f.1, x, .int .i64 r.t.L, .int .i64 r.t.M, .float .f64 f.2, y]
def cellsRw : List Rw → List (Nat × Nat) → List Value → List Value
  | r :: rs, f :: fs, x :: y :: xs => cellsOne r f x y ++ cellsRw rs fs xs
  | _, _, _ => []
theorem cellsRw_cons (r : Rw) (rs : List Rw) (f : Nat × Nat) (fs : List (Nat × Nat)) (x y : Value) (xs : List Value) : cellsRw (r :: rs) (f :: fs) (x :: y :: xs) = cellsOne r f x y ++ cellsRw rs fs xs := by rw [cellsRw]
theorem cellsRw_nil (fs : List (Nat × Nat)) (xs : List Value) : cellsRw [] fs xs = [] := by unfold cellsRw; rfl
theorem cellsRw_snoc (r : Rw) (f : Nat × Nat) (x y : Value) : ∀ (rs : List Rw) (fs : List (Nat × Nat)) (xs : List Value), fs.length = rs.length → xs.length = rs.length * 2 → cellsRw (rs ++ [r]) (fs ++ [f]) (xs ++ [x, y]) = cellsRw rs fs xs ++ cellsOne r f x y := by
  intro rs
  induction rs with
  | nil =>
    intro fs xs h1 h2
    obtain rfl := List.eq_nil_of_length_eq_zero (by simpa using h1 : fs.length = 0)
    obtain rfl := List.eq_nil_of_length_eq_zero (by simpa using h2 : xs.length = 0)
    rw [List.nil_append, List.nil_append, List.nil_append, cellsRw_cons, cellsRw_nil, List.append_nil, List.nil_append]
  | cons q rs ih =>
    intro fs xs h1 h2
    obtain ⟨g, fs, rfl⟩ : ∃ g fs', fs = g :: fs' := by cases fs with | nil => simp at h1 | cons g fs => exact ⟨g, fs, rfl⟩
    obtain ⟨u, v, xs, rfl⟩ : ∃ u v xs', xs = u :: v :: xs' := by
      match xs, h2 with
      | [], h2 => simp at h2
      | [u], h2 => simp at h2; omega
      | u :: v :: xs, _ => exact ⟨u, v, xs, rfl⟩
    have := ih fs xs (by simpa using h1) (by simp at h2; omega)
    rw [List.cons_append, List.cons_append, List.cons_append, List.cons_append, cellsRw_cons, cellsRw_cons, this, List.append_assoc]
theorem cellsRw_at : ∀ (rs : List Rw) (fs : List (Nat × Nat)) (xs : List Value) (i j : Nat), fs.length = rs.length → xs.length = rs.length * 2 → i < rs.length → j < 12 → (cellsRw rs fs xs)[i * 12 + j]? = (cellsOne (rs.getD i rw0) (fs.getD i (0, 0)) (xs.getD (i * 2) nilS) (xs.getD (i * 2 + 1) nilS))[j]?
  | r :: rs, f :: fs, x :: y :: xs, 0, j, _, _, _, hj => by
    simp only [cellsRw, Nat.zero_mul, Nat.zero_add]
    rw [List.getElem?_append_left (by simp [cellsOne]; omega)]
    rfl
  | r :: rs, f :: fs, x :: y :: xs, i + 1, j, h1, h2, hi, hj => by
    have := cellsRw_at rs fs xs i j (by simpa using h1) (by simp at h2; omega) (by simpa using hi) hj
    simp only [cellsRw]
    rw [List.getElem?_append_right (by simp [cellsOne]; omega), show (i + 1) * 12 + j - (cellsOne r f x y).length = i * 12 + j by simp [cellsOne]; omega, this]
    rw [show (i + 1) * 2 + 1 = i * 2 + 1 + 1 + 1 by omega, show (i + 1) * 2 = i * 2 + 1 + 1 by omega]
    simp only [List.getD_cons_succ]
  | r :: rs, f :: fs, [x], i, j, h1, h2, _, _ => by simp at h2; omega
  | r :: rs, f :: fs, [], i, j, h1, h2, _, _ => by simp at h2
  | [], _, _, i, j, _, _, hi, _ => by cases hi
/-- The floats of a row are those that were read. -/
def SameR (r : Rw) (f : Nat × Nat) : Prop := Same r.t.F f.1 ∧ Same r.t.H f.2 ∧ f.1 < 18446744073709551616 ∧ f.2 < 18446744073709551616
/-- A slice of rows whose memory, all of it, is the call's own, within lo .. hi. -/
structure OwnRw (w : World) (lo hi : Nat) (v : Value) (rs : List Rw) : Prop where
  own : ∃ (fs : List (Nat × Nat)) (xs : List Value), w.ownsRow lo 42 12 v rs.length (cellsRw rs fs xs) ∧ fs.length = rs.length ∧ Bands w lo hi xs (textsR rs) ∧ ∀ i, i < rs.length → SameR (rs.getD i rw0) (fs.getD i (0, 0))
  top : ∀ g, v.ownBlock = some g → g < hi
theorem Bands.two {w : World} {lo hi : Nat} {v1 v2 : Value} {z1 z2 : List Int} (o1 : w.ownsRow lo 5 1 v1 z1.length (bys z1)) (o2 : w.ownsRow lo 5 1 v2 z2.length (bys z2)) (h1 : ∀ j, 0 ≤ z1.getD j 0 ∧ z1.getD j 0 ≤ 255) (h2 : ∀ j, 0 ≤ z2.getD j 0 ∧ z2.getD j 0 ≤ 255) (ha : Apart v1 v2) (hh : w.heap.size ≤ hi) : Bands w lo hi [v1, v2] [z1, z2] := by
  refine ⟨rfl, ?_, ?_, ?_, ?_⟩
  · intro i
    match i with
    | 0 => exact o1
    | 1 => exact o2
    | i + 2 => simpa [bys, nilS] using World.ownsRow_nil w lo 5 1
  · intro x hx g hg
    simp only [List.mem_cons, List.not_mem_nil, or_false] at hx
    rcases hx with rfl | rfl
    · exact Nat.lt_of_lt_of_le (o1.lt g hg).2 hh
    · exact Nat.lt_of_lt_of_le (o2.lt g hg).2 hh
  · exact List.pairwise_cons.2 ⟨fun b hb => by obtain rfl := List.mem_singleton.1 hb; exact ha, List.pairwise_singleton _ _⟩
  · intro i j
    match i with
    | 0 => exact h1 j
    | 1 => exact h2 j
    | i + 2 => simp
section
variable {w w' : World} {lo hi : Nat} {v : Value} {rs : List Rw}
theorem OwnRw.nil (w : World) (lo hi : Nat) : OwnRw w lo hi (.slice none 0 0) [] :=
  ⟨⟨[], [], World.ownsRow_nil _ _ _ _, rfl, Bands.nil _ _ _, (fun i hi => by cases hi)⟩, (fun g hg => by cases hg)⟩
theorem OwnRw.slice (h : OwnRw w lo hi v rs) : ∃ a c, v = .slice a rs.length c := by
  obtain ⟨fs, xs, o, _⟩ := h.own
  exact own_sl o
theorem OwnRw.agree (h : OwnRw w lo hi v rs) (ha : Agree lo hi w w') : OwnRw w' lo hi v rs := by
  obtain ⟨fs, xs, o, hf, b, q⟩ := h.own
  exact ⟨⟨fs, xs, owns_agree o ha (fun g hg => ⟨(o.lt g hg).1, h.top g hg⟩), hf, b.agree ha, q⟩, h.top⟩
theorem OwnRw.below (h : OwnRw w lo hi v rs) {B : Nat} (hb : Below B w w') (hB : hi ≤ B) : OwnRw w' lo hi v rs := h.agree (Agree.below hb hB)
theorem OwnRw.mono {lo' hi' : Nat} (h : OwnRw w lo hi v rs) (hl : lo' ≤ lo) (hh : hi ≤ hi') : OwnRw w lo' hi' v rs := by
  obtain ⟨fs, xs, o, hf, b, q⟩ := h.own
  exact ⟨⟨fs, xs, owns_lower o hl, hf, b.mono hl hh, q⟩, fun g hg => Nat.lt_of_lt_of_le (h.top g hg) hh⟩
/-- One more row: its texts lie behind 'mid', it has been appended. -/
theorem OwnRw.push {mid n : Nat} {a : Option Addr} {c : Nat} {fs : List (Nat × Nat)} {xs : List Value} (o : w.ownsRow lo 42 12 (.slice a n c) n (cellsRw rs fs xs)) (hn : rs.length = n) (hf : fs.length = rs.length) (hB : Bands w lo mid xs (textsR rs)) (hq : ∀ i, i < rs.length → SameR (rs.getD i rw0) (fs.getD i (0, 0))) (hlm : lo ≤ mid) (hmw : mid ≤ w.heap.size) {r : Rw} {f : Nat × Nat} {x y : Value} (o1 : w.ownsRow mid 5 1 x r.t.Z.length (bys r.t.Z)) (o2 : w.ownsRow mid 5 1 y r.t.Y.length (bys r.t.Y)) (h1 : ∀ j, 0 ≤ r.t.Z.getD j 0 ∧ r.t.Z.getD j 0 ≤ 255) (h2 : ∀ j, 0 ≤ r.t.Y.getD j 0 ∧ r.t.Y.getD j 0 ≤ 255) (hap : Apart x y) (hs : SameR r f)
    (o' : w'.ownsRow lo 42 12 v (n + 1) (cellsRw rs fs xs ++ cellsOne r f x y)) (g : w.grownBy w' (Value.slice a n c).ownBlock) : OwnRw w' lo w'.heap.size v (rs ++ [r]) := by
  have hxl : xs.length = rs.length * 2 := by rw [hB.len, textsR_len]
  have B2 : Bands w lo w.heap.size (xs ++ [x, y]) (textsR rs ++ [r.t.Z, r.t.Y]) := hB.append (Bands.two o1 o2 h1 h2 hap (Nat.le_refl _)) hlm hmw
  have B3 := B2.beside g (fun i => owns_ne (B2.own i) o (by decide))
  refine ⟨⟨fs ++ [f], xs ++ [x, y], ?_, by simp [hf], ?_, fun i hi => ?_⟩, fun g' hg' => (o'.lt g' hg').2⟩
  · rw [List.length_append, hn, cellsRw_snoc _ _ _ _ _ _ _ hf hxl]; exact o'
  · rw [textsR_app]; exact B3.mono (Nat.le_refl _) g.size
  · rw [getD_app, getD_app, hf]
    by_cases hc : i < rs.length
    · rw [if_pos hc, if_pos hc]; exact hq i hc
    · have : i = rs.length := by simp at hi; omega
      rw [if_neg hc, if_neg hc, this, Nat.sub_self]; exact hs
end
end Go.Proofs.YtebhipicfgnajaaGreat
