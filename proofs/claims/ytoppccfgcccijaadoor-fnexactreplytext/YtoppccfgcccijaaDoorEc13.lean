/- The contracts of the laws' toItemS, szItemS, eqItemS, toSpanS, szSpanS, eqSpanS. Conditions: items of at most 2^21 bytes together. -/
import Derived.Test.YtoppccfgcccijaaDoorEb13
import Derived.Test.YtoppccfgcccijaaDoorNm9
namespace Go.Proofs.YtoppccfgcccijaaDoor
open Go.RowKit
set_option maxRecDepth 100000

theorem made4n (a b c d : Value) : ∀ n : Nat, (madeCells #[a, b, c, d] (n * 4)).toList = (List.replicate n [a, b, c, d]).flatten := by
  intro n
  have h : ∀ n : Nat, (madeCells #[a, b, c, d] (n * 4)).toList = (List.range (n * 4)).map (fun i => #[a, b, c, d][i % 4]!) := by
    intro n
    simp [madeCells]
  rw [h]
  induction n with
  | zero => rfl
  | succ n ih =>
    rw [show (n + 1) * 4 = n * 4 + 4 by omega, List.range_add, List.map_append, ih, List.replicate_succ', List.flatten_append]
    congr 1
    simp [List.range_succ]
theorem made8n (a b c d : Value) : ∀ n : Nat, (madeCells #[a, b, c, d, a, b, c, d] (n * 8)).toList = (List.replicate (n * 2) [a, b, c, d]).flatten := by
  intro n
  have h : ∀ n : Nat, (madeCells #[a, b, c, d, a, b, c, d] (n * 8)).toList = (List.range (n * 8)).map (fun i => #[a, b, c, d, a, b, c, d][i % 8]!) := by
    intro n
    simp [madeCells]
  rw [h]
  induction n with
  | zero => rfl
  | succ n ih =>
    rw [show (n + 1) * 8 = n * 8 + 8 by omega, List.range_add, List.map_append, ih, show (n + 1) * 2 = n * 2 + 1 + 1 by omega, List.replicate_succ', List.flatten_append, List.replicate_succ', List.flatten_append, List.append_assoc]
    congr 1
    simp [List.range_succ]
theorem zeroIm (n : Nat) : cellsI (List.replicate n im0) (List.replicate n nilS) = (List.replicate n [Value.int .i64 0, .int .i64 0, .float .f64 0, nilS]).flatten := by
  induction n with
  | zero => rfl
  | succ n ih => rw [List.replicate_succ, List.replicate_succ, cellsI, ih, List.replicate_succ]; rfl
theorem cellsI_set4 : ∀ (es : List Im) (xs : List Value) (k : Nat) (e : Im) (x : Value), xs.length = es.length → k < es.length → ((((cellsI es xs).set (k * 4) (.int .i64 e.K)).set (k * 4 + 1) (.int .i64 e.N)).set (k * 4 + 2) (.float .f64 e.F)).set (k * 4 + 3) x = cellsI (es.set k e) (xs.set k x)
  | q :: es, y :: xs, 0, e, x, _, _ => by simp [cellsI, cellsI1]
  | q :: es, y :: xs, k + 1, e, x, h, hk => by
    have ih := cellsI_set4 es xs k e x (by simpa using h) (by simpa using hk)
    rw [show (k + 1) * 4 = k * 4 + 4 by omega]
    simp only [cellsI, cellsI1, List.cons_append, List.nil_append, List.set_cons_succ, ← ih]
theorem cellsI_set8 (es : List Im) (xs : List Value) (k : Nat) (e f : Im) (x y : Value) (h : xs.length = es.length) (hk : k * 2 + 1 < es.length) : ((((((((cellsI es xs).set (k * 8) (.int .i64 e.K)).set (k * 8 + 1) (.int .i64 e.N)).set (k * 8 + 2) (.float .f64 e.F)).set (k * 8 + 3) x).set (k * 8 + 4) (.int .i64 f.K)).set (k * 8 + 5) (.int .i64 f.N)).set (k * 8 + 6) (.float .f64 f.F)).set (k * 8 + 7) y = cellsI ((es.set (k * 2) e).set (k * 2 + 1) f) ((xs.set (k * 2) x).set (k * 2 + 1) y) := by
  have h1 := cellsI_set4 es xs (k * 2) e x h (by omega)
  have h2 := cellsI_set4 (es.set (k * 2) e) (xs.set (k * 2) x) (k * 2 + 1) f y (by simpa using h) (by simpa using hk)
  rw [show k * 2 * 4 = k * 8 by omega] at h1
  rw [show (k * 2 + 1) * 4 = k * 8 + 4 by omega, ← h1] at h2
  exact h2
def sumI : List Im → Nat
  | [] => 0
  | e :: es => e.Z.length + sumI es
theorem sumI_app : ∀ a b : List Im, sumI (a ++ b) = sumI a + sumI b
  | [], b => by simp [sumI]
  | e :: a, b => by simp [sumI, sumI_app a b]; omega
theorem take_snocI (es : List Im) (k : Nat) (h : k < es.length) : es.take (k + 1) = es.take k ++ [es.getD k im0] := by
  rw [List.take_add_one, List.getElem?_eq_getElem h, Option.toList_some]
  simp [List.getD, h]
theorem take_snocI2 (es : List Im) (k : Nat) (h : k * 2 + 1 < es.length) : es.take ((k + 1) * 2) = es.take (k * 2) ++ [es.getD (k * 2) im0, es.getD (k * 2 + 1) im0] := by
  rw [show (k + 1) * 2 = k * 2 + 1 + 1 by omega, take_snocI es _ h, take_snocI es _ (by omega), List.append_assoc]
  rfl
theorem sumI_step (es : List Im) (k : Nat) (h : k < es.length) : sumI (es.take (k + 1)) = sumI (es.take k) + (es.getD k im0).Z.length := by
  rw [take_snocI es k h, sumI_app]; simp [sumI]
theorem sumI_step2 (es : List Im) (k : Nat) (h : k * 2 + 1 < es.length) : sumI (es.take ((k + 1) * 2)) = sumI (es.take (k * 2)) + ((es.getD (k * 2) im0).Z.length + (es.getD (k * 2 + 1) im0).Z.length) := by
  rw [take_snocI2 es k h, sumI_app]; simp [sumI]
theorem sumI_take (es : List Im) (k : Nat) : sumI (es.take k) ≤ sumI es := by
  have : sumI es = sumI (es.take k ++ es.drop k) := by rw [List.take_append_drop]
  rw [this, sumI_app]; omega
theorem sumI_at (es : List Im) (k : Nat) (h : k < es.length) : (es.getD k im0).Z.length ≤ sumI es := by
  have h1 := sumI_step es k h
  have h2 := sumI_take es (k + 1)
  omega
theorem set_rep13 {α : Type} (l : List α) (k n : Nat) (z x y : α) (hl : l.length = k * 2) (hk : k < n) : ((l ++ List.replicate ((n - k) * 2) z).set (k * 2) x).set (k * 2 + 1) y = (l ++ [x, y]) ++ List.replicate ((n - (k + 1)) * 2) z := by
  rw [show (n - k) * 2 = (n - (k + 1)) * 2 + 1 + 1 by omega, List.replicate_succ, List.replicate_succ, List.set_append_right _ _ (by omega), hl, Nat.sub_self, List.set_cons_zero, List.set_append_right _ _ (by omega), hl, show k * 2 + 1 - k * 2 = 1 by omega]
  simp

/-- Items alike, but for which NaN a float is. -/
def Im.same (e f : Im) : Prop := e.K = f.K ∧ e.N = f.N ∧ Same e.F f.F ∧ e.Z = f.Z
def SameM (es fs : List Im) : Prop := es.length = fs.length ∧ ∀ i, (es.getD i im0).same (fs.getD i im0)
theorem SameM.refl (es : List Im) : SameM es es := ⟨rfl, fun _ => ⟨rfl, rfl, Same.refl _, rfl⟩⟩

end Go.Proofs.YtoppccfgcccijaaDoor