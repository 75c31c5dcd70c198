/- Rows marked, plain: what the laws' markRowS writes, cell by cell. No program, no conditions. -/
import Derived.Test.YtebhipicfgnajaaGreatHl10
import Derived.Test.YtebhipicfgnajaaGreatMgb
namespace Go.Proofs.YtebhipicfgnajaaGreat
open Go.RowKit
set_option maxRecDepth 100000

theorem getD_set_rw (rs : List Rw) (i : Nat) (r : Rw) (h : i < rs.length) : (rs.set i r).getD i rw0 = r := by
  rw [getD_set' rs i i r rw0 h, if_pos rfl]
theorem three_of {rs : List Rw} {fs : List (Nat × Nat)} {xs : List Value} {q : Rw} (h1 : fs.length = (q :: rs).length) (h2 : xs.length = (q :: rs).length * 2) : ∃ f fs' u v xs', fs = f :: fs' ∧ xs = u :: v :: xs' ∧ fs'.length = rs.length ∧ xs'.length = rs.length * 2 := by
  match fs, xs, h1, h2 with
  | f :: fs, u :: v :: xs, h1, h2 => exact ⟨f, fs, u, v, xs, rfl, rfl, by simpa using h1, by simp at h2; omega⟩
  | f :: fs, [u], h1, h2 => simp at h2; omega
  | f :: fs, [], h1, h2 => simp at h2
  | [], xs, h1, h2 => simp at h1
theorem cw_p (z : Int) : ∀ (rs : List Rw) (fs : List (Nat × Nat)) (xs : List Value) (i : Nat), fs.length = rs.length → xs.length = rs.length * 2 → i < rs.length → (cellsRw rs fs xs).set (i * 12 + 0) (.int .i64 z) = cellsRw (rs.set i { (rs.getD i rw0) with p := z }) fs xs := by
  intro rs
  induction rs with
  | nil => intro fs xs i _ _ hi; cases hi
  | cons q rs ih =>
    intro fs xs i h1 h2 hi
    obtain ⟨g, fs, u, v, xs, rfl, rfl, h3, h4⟩ := three_of h1 h2
    cases i with
    | zero => rw [cellsRw_cons, List.set_cons_zero, cellsRw_cons]; simp [cellsOne]
    | succ i =>
      rw [cellsRw_cons, List.set_cons_succ, cellsRw_cons, List.set_append_right _ _ (by simp [cellsOne]; omega), show (i + 1) * 12 + 0 - (cellsOne q g u v).length = i * 12 + 0 by simp [cellsOne]; omega, ih fs xs i h3 h4 (by simpa using hi), List.getD_cons_succ]
theorem cw_s (z : Int) : ∀ (rs : List Rw) (fs : List (Nat × Nat)) (xs : List Value) (i : Nat), fs.length = rs.length → xs.length = rs.length * 2 → i < rs.length → (cellsRw rs fs xs).set (i * 12 + 1) (.int .i64 z) = cellsRw (rs.set i { (rs.getD i rw0) with s := z }) fs xs := by
  intro rs
  induction rs with
  | nil => intro fs xs i _ _ hi; cases hi
  | cons q rs ih =>
    intro fs xs i h1 h2 hi
    obtain ⟨g, fs, u, v, xs, rfl, rfl, h3, h4⟩ := three_of h1 h2
    cases i with
    | zero => rw [cellsRw_cons, List.set_cons_zero, cellsRw_cons]; simp [cellsOne]
    | succ i =>
      rw [cellsRw_cons, List.set_cons_succ, cellsRw_cons, List.set_append_right _ _ (by simp [cellsOne]; omega), show (i + 1) * 12 + 1 - (cellsOne q g u v).length = i * 12 + 1 by simp [cellsOne]; omega, ih fs xs i h3 h4 (by simpa using hi), List.getD_cons_succ]
theorem cw_A (z : Int) : ∀ (rs : List Rw) (fs : List (Nat × Nat)) (xs : List Value) (i : Nat), fs.length = rs.length → xs.length = rs.length * 2 → i < rs.length → (cellsRw rs fs xs).set (i * 12 + 2) (.int .i64 z) = cellsRw (rs.set i { (rs.getD i rw0) with t := { (rs.getD i rw0).t with A := z } }) fs xs := by
  intro rs
  induction rs with
  | nil => intro fs xs i _ _ hi; cases hi
  | cons q rs ih =>
    intro fs xs i h1 h2 hi
    obtain ⟨g, fs, u, v, xs, rfl, rfl, h3, h4⟩ := three_of h1 h2
    cases i with
    | zero => rw [cellsRw_cons, List.set_cons_zero, cellsRw_cons]; simp [cellsOne]
    | succ i =>
      rw [cellsRw_cons, List.set_cons_succ, cellsRw_cons, List.set_append_right _ _ (by simp [cellsOne]; omega), show (i + 1) * 12 + 2 - (cellsOne q g u v).length = i * 12 + 2 by simp [cellsOne]; omega, ih fs xs i h3 h4 (by simpa using hi), List.getD_cons_succ]
theorem cw_B (z : Int) : ∀ (rs : List Rw) (fs : List (Nat × Nat)) (xs : List Value) (i : Nat), fs.length = rs.length → xs.length = rs.length * 2 → i < rs.length → (cellsRw rs fs xs).set (i * 12 + 3) (.int .i64 z) = cellsRw (rs.set i { (rs.getD i rw0) with t := { (rs.getD i rw0).t with B := z } }) fs xs := by
  intro rs
  induction rs with
  | nil => intro fs xs i _ _ hi; cases hi
  | cons q rs ih =>
    intro fs xs i h1 h2 hi
    obtain ⟨g, fs, u, v, xs, rfl, rfl, h3, h4⟩ := three_of h1 h2
    cases i with
    | zero => rw [cellsRw_cons, List.set_cons_zero, cellsRw_cons]; simp [cellsOne]
    | succ i =>
      rw [cellsRw_cons, List.set_cons_succ, cellsRw_cons, List.set_append_right _ _ (by simp [cellsOne]; omega), show (i + 1) * 12 + 3 - (cellsOne q g u v).length = i * 12 + 3 by simp [cellsOne]; omega, ih fs xs i h3 h4 (by simpa using hi), List.getD_cons_succ]
theorem cw_K (z : Int) : ∀ (rs : List Rw) (fs : List (Nat × Nat)) (xs : List Value) (i : Nat), fs.length = rs.length → xs.length = rs.length * 2 → i < rs.length → (cellsRw rs fs xs).set (i * 12 + 4) (.int .i64 z) = cellsRw (rs.set i { (rs.getD i rw0) with t := { (rs.getD i rw0).t with K := z } }) fs xs := by
  intro rs
  induction rs with
  | nil => intro fs xs i _ _ hi; cases hi
  | cons q rs ih =>
    intro fs xs i h1 h2 hi
    obtain ⟨g, fs, u, v, xs, rfl, rfl, h3, h4⟩ := three_of h1 h2
    cases i with
    | zero => rw [cellsRw_cons, List.set_cons_zero, cellsRw_cons]; simp [cellsOne]
    | succ i =>
      rw [cellsRw_cons, List.set_cons_succ, cellsRw_cons, List.set_append_right _ _ (by simp [cellsOne]; omega), show (i + 1) * 12 + 4 - (cellsOne q g u v).length = i * 12 + 4 by simp [cellsOne]; omega, ih fs xs i h3 h4 (by simpa using hi), List.getD_cons_succ]
theorem cw_N (z : Int) : ∀ (rs : List Rw) (fs : List (Nat × Nat)) (xs : List Value) (i : Nat), fs.length = rs.length → xs.length = rs.length * 2 → i < rs.length → (cellsRw rs fs xs).set (i * 12 + 5) (.int .i64 z) = cellsRw (rs.set i { (rs.getD i rw0) with t := { (rs.getD i rw0).t with N := z } }) fs xs := by
  intro rs
  induction rs with
  | nil => intro fs xs i _ _ hi; cases hi
  | cons q rs ih =>
    intro fs xs i h1 h2 hi
    obtain ⟨g, fs, u, v, xs, rfl, rfl, h3, h4⟩ := three_of h1 h2
    cases i with
    | zero => rw [cellsRw_cons, List.set_cons_zero, cellsRw_cons]; simp [cellsOne]
    | succ i =>
      rw [cellsRw_cons, List.set_cons_succ, cellsRw_cons, List.set_append_right _ _ (by simp [cellsOne]; omega), show (i + 1) * 12 + 5 - (cellsOne q g u v).length = i * 12 + 5 by simp [cellsOne]; omega, ih fs xs i h3 h4 (by simpa using hi), List.getD_cons_succ]
theorem cw_L (z : Int) : ∀ (rs : List Rw) (fs : List (Nat × Nat)) (xs : List Value) (i : Nat), fs.length = rs.length → xs.length = rs.length * 2 → i < rs.length → (cellsRw rs fs xs).set (i * 12 + 8) (.int .i64 z) = cellsRw (rs.set i { (rs.getD i rw0) with t := { (rs.getD i rw0).t with L := z } }) fs xs := by
  intro rs
  induction rs with
  | nil => intro fs xs i _ _ hi; cases hi
  | cons q rs ih =>
    intro fs xs i h1 h2 hi
    obtain ⟨g, fs, u, v, xs, rfl, rfl, h3, h4⟩ := three_of h1 h2
    cases i with
    | zero => rw [cellsRw_cons, List.set_cons_zero, cellsRw_cons]; simp [cellsOne]
    | succ i =>
      rw [cellsRw_cons, List.set_cons_succ, cellsRw_cons, List.set_append_right _ _ (by simp [cellsOne]; omega), show (i + 1) * 12 + 8 - (cellsOne q g u v).length = i * 12 + 8 by simp [cellsOne]; omega, ih fs xs i h3 h4 (by simpa using hi), List.getD_cons_succ]
theorem cw_M (z : Int) : ∀ (rs : List Rw) (fs : List (Nat × Nat)) (xs : List Value) (i : Nat), fs.length = rs.length → xs.length = rs.length * 2 → i < rs.length → (cellsRw rs fs xs).set (i * 12 + 9) (.int .i64 z) = cellsRw (rs.set i { (rs.getD i rw0) with t := { (rs.getD i rw0).t with M := z } }) fs xs := by
  intro rs
  induction rs with
  | nil => intro fs xs i _ _ hi; cases hi
  | cons q rs ih =>
    intro fs xs i h1 h2 hi
    obtain ⟨g, fs, u, v, xs, rfl, rfl, h3, h4⟩ := three_of h1 h2
    cases i with
    | zero => rw [cellsRw_cons, List.set_cons_zero, cellsRw_cons]; simp [cellsOne]
    | succ i =>
      rw [cellsRw_cons, List.set_cons_succ, cellsRw_cons, List.set_append_right _ _ (by simp [cellsOne]; omega), show (i + 1) * 12 + 9 - (cellsOne q g u v).length = i * 12 + 9 by simp [cellsOne]; omega, ih fs xs i h3 h4 (by simpa using hi), List.getD_cons_succ]
theorem cw_F (z : Nat) : ∀ (rs : List Rw) (fs : List (Nat × Nat)) (xs : List Value) (i : Nat), fs.length = rs.length → xs.length = rs.length * 2 → i < rs.length → (cellsRw rs fs xs).set (i * 12 + 6) (.float .f64 z) = cellsRw rs (fs.set i (z, (fs.getD i (0, 0)).2)) xs := by
  intro rs
  induction rs with
  | nil => intro fs xs i _ _ hi; cases hi
  | cons q rs ih =>
    intro fs xs i h1 h2 hi
    obtain ⟨g, fs, u, v, xs, rfl, rfl, h3, h4⟩ := three_of h1 h2
    cases i with
    | zero => rw [cellsRw_cons, List.set_cons_zero, cellsRw_cons]; simp [cellsOne]
    | succ i =>
      rw [cellsRw_cons, List.set_cons_succ, cellsRw_cons, List.set_append_right _ _ (by simp [cellsOne]; omega), show (i + 1) * 12 + 6 - (cellsOne q g u v).length = i * 12 + 6 by simp [cellsOne]; omega, ih fs xs i h3 h4 (by simpa using hi), List.getD_cons_succ]
theorem cw_H (z : Nat) : ∀ (rs : List Rw) (fs : List (Nat × Nat)) (xs : List Value) (i : Nat), fs.length = rs.length → xs.length = rs.length * 2 → i < rs.length → (cellsRw rs fs xs).set (i * 12 + 10) (.float .f64 z) = cellsRw rs (fs.set i ((fs.getD i (0, 0)).1, z)) xs := by
  intro rs
  induction rs with
  | nil => intro fs xs i _ _ hi; cases hi
  | cons q rs ih =>
    intro fs xs i h1 h2 hi
    obtain ⟨g, fs, u, v, xs, rfl, rfl, h3, h4⟩ := three_of h1 h2
    cases i with
    | zero => rw [cellsRw_cons, List.set_cons_zero, cellsRw_cons]; simp [cellsOne]
    | succ i =>
      rw [cellsRw_cons, List.set_cons_succ, cellsRw_cons, List.set_append_right _ _ (by simp [cellsOne]; omega), show (i + 1) * 12 + 10 - (cellsOne q g u v).length = i * 12 + 10 by simp [cellsOne]; omega, ih fs xs i h3 h4 (by simpa using hi), List.getD_cons_succ]
theorem cws_p (z : Int) (qs : List Rw) (fs : List (Nat × Nat)) (xs : List Value) (i : Nat) (r : Rw) (h1 : fs.length = qs.length) (h2 : xs.length = qs.length * 2) (h3 : i < qs.length) : (cellsRw (qs.set i r) fs xs).set (i * 12 + 0) (.int .i64 z) = cellsRw (qs.set i { r with p := z }) fs xs := by
  rw [cw_p z (qs.set i r) fs xs i (by rw [List.length_set]; exact h1) (by rw [List.length_set]; exact h2) (by rw [List.length_set]; exact h3), getD_set_rw _ _ _ h3, List.set_set]
theorem cws_s (z : Int) (qs : List Rw) (fs : List (Nat × Nat)) (xs : List Value) (i : Nat) (r : Rw) (h1 : fs.length = qs.length) (h2 : xs.length = qs.length * 2) (h3 : i < qs.length) : (cellsRw (qs.set i r) fs xs).set (i * 12 + 1) (.int .i64 z) = cellsRw (qs.set i { r with s := z }) fs xs := by
  rw [cw_s z (qs.set i r) fs xs i (by rw [List.length_set]; exact h1) (by rw [List.length_set]; exact h2) (by rw [List.length_set]; exact h3), getD_set_rw _ _ _ h3, List.set_set]
theorem cws_A (z : Int) (qs : List Rw) (fs : List (Nat × Nat)) (xs : List Value) (i : Nat) (r : Rw) (h1 : fs.length = qs.length) (h2 : xs.length = qs.length * 2) (h3 : i < qs.length) : (cellsRw (qs.set i r) fs xs).set (i * 12 + 2) (.int .i64 z) = cellsRw (qs.set i { r with t := { r.t with A := z } }) fs xs := by
  rw [cw_A z (qs.set i r) fs xs i (by rw [List.length_set]; exact h1) (by rw [List.length_set]; exact h2) (by rw [List.length_set]; exact h3), getD_set_rw _ _ _ h3, List.set_set]
theorem cws_B (z : Int) (qs : List Rw) (fs : List (Nat × Nat)) (xs : List Value) (i : Nat) (r : Rw) (h1 : fs.length = qs.length) (h2 : xs.length = qs.length * 2) (h3 : i < qs.length) : (cellsRw (qs.set i r) fs xs).set (i * 12 + 3) (.int .i64 z) = cellsRw (qs.set i { r with t := { r.t with B := z } }) fs xs := by
  rw [cw_B z (qs.set i r) fs xs i (by rw [List.length_set]; exact h1) (by rw [List.length_set]; exact h2) (by rw [List.length_set]; exact h3), getD_set_rw _ _ _ h3, List.set_set]
theorem cws_K (z : Int) (qs : List Rw) (fs : List (Nat × Nat)) (xs : List Value) (i : Nat) (r : Rw) (h1 : fs.length = qs.length) (h2 : xs.length = qs.length * 2) (h3 : i < qs.length) : (cellsRw (qs.set i r) fs xs).set (i * 12 + 4) (.int .i64 z) = cellsRw (qs.set i { r with t := { r.t with K := z } }) fs xs := by
  rw [cw_K z (qs.set i r) fs xs i (by rw [List.length_set]; exact h1) (by rw [List.length_set]; exact h2) (by rw [List.length_set]; exact h3), getD_set_rw _ _ _ h3, List.set_set]
theorem cws_N (z : Int) (qs : List Rw) (fs : List (Nat × Nat)) (xs : List Value) (i : Nat) (r : Rw) (h1 : fs.length = qs.length) (h2 : xs.length = qs.length * 2) (h3 : i < qs.length) : (cellsRw (qs.set i r) fs xs).set (i * 12 + 5) (.int .i64 z) = cellsRw (qs.set i { r with t := { r.t with N := z } }) fs xs := by
  rw [cw_N z (qs.set i r) fs xs i (by rw [List.length_set]; exact h1) (by rw [List.length_set]; exact h2) (by rw [List.length_set]; exact h3), getD_set_rw _ _ _ h3, List.set_set]
theorem cws_L (z : Int) (qs : List Rw) (fs : List (Nat × Nat)) (xs : List Value) (i : Nat) (r : Rw) (h1 : fs.length = qs.length) (h2 : xs.length = qs.length * 2) (h3 : i < qs.length) : (cellsRw (qs.set i r) fs xs).set (i * 12 + 8) (.int .i64 z) = cellsRw (qs.set i { r with t := { r.t with L := z } }) fs xs := by
  rw [cw_L z (qs.set i r) fs xs i (by rw [List.length_set]; exact h1) (by rw [List.length_set]; exact h2) (by rw [List.length_set]; exact h3), getD_set_rw _ _ _ h3, List.set_set]
theorem cws_M (z : Int) (qs : List Rw) (fs : List (Nat × Nat)) (xs : List Value) (i : Nat) (r : Rw) (h1 : fs.length = qs.length) (h2 : xs.length = qs.length * 2) (h3 : i < qs.length) : (cellsRw (qs.set i r) fs xs).set (i * 12 + 9) (.int .i64 z) = cellsRw (qs.set i { r with t := { r.t with M := z } }) fs xs := by
  rw [cw_M z (qs.set i r) fs xs i (by rw [List.length_set]; exact h1) (by rw [List.length_set]; exact h2) (by rw [List.length_set]; exact h3), getD_set_rw _ _ _ h3, List.set_set]
/-- What the cells of a row don't tell. -/
theorem cw_t (r : Rw) : ∀ (rs : List Rw) (fs : List (Nat × Nat)) (xs : List Value) (i : Nat), fs.length = rs.length → xs.length = rs.length * 2 → i < rs.length → (r.p = (rs.getD i rw0).p ∧ r.s = (rs.getD i rw0).s ∧ r.t.A = (rs.getD i rw0).t.A ∧ r.t.B = (rs.getD i rw0).t.B ∧ r.t.K = (rs.getD i rw0).t.K ∧ r.t.N = (rs.getD i rw0).t.N ∧ r.t.L = (rs.getD i rw0).t.L ∧ r.t.M = (rs.getD i rw0).t.M) → cellsRw rs fs xs = cellsRw (rs.set i r) fs xs := by
  intro rs
  induction rs with
  | nil => intro fs xs i _ _ hi; cases hi
  | cons q rs ih =>
    intro fs xs i h1 h2 hi hr
    obtain ⟨g, fs, u, v, xs, rfl, rfl, h3, h4⟩ := three_of h1 h2
    cases i with
    | zero =>
      simp only [List.getD_cons_zero] at hr
      obtain ⟨e1, e2, e3, e4, e5, e6, e7, e8⟩ := hr
      rw [cellsRw_cons, List.set_cons_zero, cellsRw_cons]
      simp only [cellsOne, e1, e2, e3, e4, e5, e6, e7, e8]
    | succ i =>
      simp only [List.getD_cons_succ] at hr
      rw [cellsRw_cons, List.set_cons_succ, cellsRw_cons, ← ih fs xs i h3 h4 (by simpa using hi) hr]
theorem set_self (qs : List Rw) (i : Nat) (h : i < qs.length) : qs.set i (qs.getD i rw0) = qs := by
  rw [List.getD_eq_getElem?_getD, List.getElem?_eq_getElem h, Option.getD_some, List.set_getElem_self]
/-- A number as a float. -/
def flI (z : Int) : Nat := floatOfInt .f64 z
theorem flI_ok {z : Int} (h0 : 0 ≤ z) (h1 : z ≤ 1000000000000) : flI z < 18446744073709551616 ∧ FloatKind.f64.format.order (flI z) (flI z) = some .eq := by
  obtain ⟨n, rfl⟩ := Int.eq_ofNat_of_zero_le h0
  have hn : n < 2 ^ 53 := by omega
  unfold flI
  rw [of_F n hn]
  have hlt := F_lt n 1074 hn (by omega)
  have h64 : F n 1074 < 18446744073709551616 := by omega
  have hN : isN (F n 1074) = false := (isN_not _).2 (by omega)
  exact ⟨h64, order_eq _ _ h64 h64 hN hN rfl⟩
/-- A row behind its marks, from k on. -/
def mkR1 (k : Int) (r : Rw) : Rw := ⟨k, k + 1, ⟨k + 2, k + 3, k + 4, k + 5, flI (k + 6), marks (k + 7) r.t.Z.length, k + 7 + r.t.Z.length, k + 8 + r.t.Z.length, flI (k + 9 + r.t.Z.length), marks (k + 10 + r.t.Z.length) r.t.Y.length, r.t.ok⟩⟩
def nmR (r : Rw) : Nat := 10 + r.t.Z.length + r.t.Y.length
def sumR : List Rw → Nat
  | [] => 0
  | r :: rs => nmR r + sumR rs
theorem sumR_app : ∀ a b : List Rw, sumR (a ++ b) = sumR a + sumR b
  | [], b => by simp [sumR]
  | p :: a, b => by simp [sumR, sumR_app a b]; omega
theorem take_snocR (rs : List Rw) (k : Nat) (h : k < rs.length) : rs.take (k + 1) = rs.take k ++ [rs.getD k rw0] := by
  rw [List.take_add_one, List.getElem?_eq_getElem h, Option.toList_some]
  simp [List.getD, h]
theorem sumR_step (rs : List Rw) (k : Nat) (h : k < rs.length) : sumR (rs.take (k + 1)) = sumR (rs.take k) + nmR (rs.getD k rw0) := by
  rw [take_snocR rs k h, sumR_app]; simp [sumR]
theorem sumR_take (rs : List Rw) (k : Nat) : sumR (rs.take k) ≤ sumR rs := by
  have : sumR rs = sumR (rs.take k ++ rs.drop k) := by rw [List.take_append_drop]
  rw [this, sumR_app]; omega
def mkRs : Int → List Rw → List Rw
  | _, [] => []
  | k, r :: rs => mkR1 k r :: mkRs (k + nmR r) rs
theorem mkRs_length : ∀ (k : Int) (rs : List Rw), (mkRs k rs).length = rs.length
  | _, [] => rfl
  | k, r :: rs => by simp [mkRs, mkRs_length]
theorem mkRs_at : ∀ (k : Int) (rs : List Rw) (i : Nat), i < rs.length → (mkRs k rs).getD i rw0 = mkR1 (k + sumR (rs.take i)) (rs.getD i rw0)
  | k, [], i, h => by cases h
  | k, r :: rs, 0, _ => by simp [mkRs, sumR]
  | k, r :: rs, i + 1, h => by
    have ih := mkRs_at (k + nmR r) rs i (by simpa using h)
    rw [mkRs, List.getD_cons_succ, ih, List.take_succ_cons, List.getD_cons_succ]
    simp only [sumR]
    rw [show k + (nmR r : Int) + (sumR (rs.take i) : Nat) = k + ((nmR r + sumR (rs.take i) : Nat) : Int) by omega]
theorem mkRs_app : ∀ (k : Int) (a b : List Rw), mkRs k (a ++ b) = mkRs k a ++ mkRs (k + sumR a) b
  | k, [], b => by simp [mkRs, sumR]
  | k, r :: a, b => by
    simp only [List.cons_append, mkRs, mkRs_app]
    rw [show k + (nmR r : Int) + (sumR a : Int) = k + ((sumR (r :: a) : Nat) : Int) by simp only [sumR]; omega]
theorem set_mkRs (k : Int) (rs : List Rw) (i : Nat) (h : i < rs.length) : (mkRs k (rs.take i) ++ rs.drop i).set i (mkR1 (k + sumR (rs.take i)) (rs.getD i rw0)) = mkRs k (rs.take (i + 1)) ++ rs.drop (i + 1) := by
  rw [List.set_append_right _ _ (by rw [mkRs_length, List.length_take]; omega), mkRs_length, List.length_take, show i - min i rs.length = 0 by omega, take_snocR rs i h, mkRs_app, List.append_assoc]
  congr 1
  have : rs.drop i = rs.getD i rw0 :: rs.drop (i + 1) := by
    rw [List.drop_eq_getElem_cons h]; simp [List.getD, h]
  rw [this, List.set_cons_zero]
  rfl
theorem mkdropR_at (k : Int) (rs : List Rw) (i : Nat) (h : i < rs.length) : (mkRs k (rs.take i) ++ rs.drop i).getD i rw0 = rs.getD i rw0 := by
  rw [getD_app, mkRs_length, List.length_take, if_neg (by omega), show i - min i rs.length = 0 by omega]
  rw [List.drop_eq_getElem_cons h]; simp [List.getD, h]
theorem textsR_set : ∀ (rs : List Rw) (i : Nat) (r : Rw), i < rs.length → textsR (rs.set i r) = ((textsR rs).set (i * 2) r.t.Z).set (i * 2 + 1) r.t.Y
  | q :: rs, 0, r, _ => by simp [textsR]
  | q :: rs, i + 1, r, h => by
    have := textsR_set rs i r (by simpa using h)
    rw [show (i + 1) * 2 + 1 = i * 2 + 1 + 1 + 1 by omega, show (i + 1) * 2 = i * 2 + 1 + 1 by omega]
    simp only [List.set_cons_succ, textsR, this]
end Go.Proofs.YtebhipicfgnajaaGreat
