/- The contracts of the laws' toTrackS, szTrackS, eqTrackS. Conditions: tracks of at most 2^21 bytes together. -/
import Derived.Test.YtoppccfgcccijaaDoorEe13
namespace Go.Proofs.YtoppccfgcccijaaDoor
open Go.RowKit
set_option maxRecDepth 100000

theorem madeT (n : Nat) : (madeCells #[.int .i64 0, .int .i64 0, .int .i64 0, .bool false, .slice none 0 0, .slice none 0 0, .bool false, .bool false] (n * 8)).toList = (List.replicate n [Value.int .i64 0, .int .i64 0, .int .i64 0, .bool false, nilS, nilS, .bool false, .bool false]).flatten := by
  have h : ∀ n : Nat, (madeCells #[.int .i64 0, .int .i64 0, .int .i64 0, .bool false, .slice none 0 0, .slice none 0 0, .bool false, .bool false] (n * 8)).toList = (List.range (n * 8)).map (fun i => #[.int .i64 0, .int .i64 0, .int .i64 0, .bool false, .slice none 0 0, .slice none 0 0, .bool false, .bool false][i % 8]!) := by
    intro n
    simp [madeCells]
  rw [h]
  induction n with
  | zero => rfl
  | succ n ih =>
    rw [show (n + 1) * 8 = n * 8 + 8 by omega, List.range_add, List.map_append, ih, List.replicate_succ', List.flatten_append]
    congr 1
    simp [List.range_succ, nilS]
theorem zeroT (n : Nat) : cellsT (List.replicate n tk0) (List.replicate n mt0) = (List.replicate n [Value.int .i64 0, .int .i64 0, .int .i64 0, .bool false, nilS, nilS, .bool false, .bool false]).flatten := by
  induction n with
  | zero => rfl
  | succ n ih => rw [List.replicate_succ, List.replicate_succ, cellsT, ih, List.replicate_succ]; rfl
theorem cellsT_set8 : ∀ (ts : List Tk) (ms : List Mt) (k : Nat) (t : Tk) (m : Mt), ms.length = ts.length → k < ts.length → (((((((((cellsT ts ms).set (k * 8) (.int .i64 t.xid)).set (k * 8 + 1) (.int .i64 t.begun)).set (k * 8 + 2) (.int .i64 t.ended)).set (k * 8 + 3) (.bool t.all)).set (k * 8 + 4) (m.y)).set (k * 8 + 5) (m.z)).set (k * 8 + 6) (.bool t.inn)).set (k * 8 + 7) (.bool t.out)) = cellsT (ts.set k t) (ms.set k m)
  | q :: ts, y :: ms, 0, t, m, _, _ => by simp [cellsT, cellsT1]
  | q :: ts, y :: ms, k + 1, t, m, h, hk => by
    have ih := cellsT_set8 ts ms k t m (by simpa using h) (by simpa using hk)
    rw [show (k + 1) * 8 = k * 8 + 8 by omega]
    simp only [cellsT, cellsT1, List.cons_append, List.nil_append, List.set_cons_succ, ← ih]
def sumT : List Tk → Nat
  | [] => 0
  | t :: ts => szT t + sumT ts
theorem sumT_app : ∀ a b : List Tk, sumT (a ++ b) = sumT a + sumT b
  | [], b => by simp [sumT]
  | t :: a, b => by simp [sumT, sumT_app a b]; omega
theorem take_snocT (ts : List Tk) (k : Nat) (h : k < ts.length) : ts.take (k + 1) = ts.take k ++ [ts.getD k tk0] := by
  rw [List.take_add_one, List.getElem?_eq_getElem h, Option.toList_some]
  simp [List.getD, h]
theorem sumT_step (ts : List Tk) (k : Nat) (h : k < ts.length) : sumT (ts.take (k + 1)) = sumT (ts.take k) + szT (ts.getD k tk0) := by
  rw [take_snocT ts k h, sumT_app]; simp [sumT]
theorem sumT_take (ts : List Tk) (k : Nat) : sumT (ts.take k) ≤ sumT ts := by
  have : sumT ts = sumT (ts.take k ++ ts.drop k) := by rw [List.take_append_drop]
  rw [this, sumT_app]; omega
theorem sumT_at (ts : List Tk) (k : Nat) (h : k < ts.length) : szT (ts.getD k tk0) ≤ sumT ts := by
  have h1 := sumT_step ts k h
  have h2 := sumT_take ts (k + 1)
  omega
section
variable {w w' : World} {lo hi : Nat} {ms : List Mt} {ts : List Tk}
end
/-- Tracks alike, but for which NaN a float is. -/
def Tk.same (t u : Tk) : Prop := t.xid = u.xid ∧ t.begun = u.begun ∧ t.ended = u.ended ∧ t.all = u.all ∧ SameM (fl2 t.rs) (fl2 u.rs) ∧ SameM t.ws u.ws ∧ t.inn = u.inn ∧ t.out = u.out
def SameT (ts us : List Tk) : Prop := ts.length = us.length ∧ ∀ i, (ts.getD i tk0).same (us.getD i tk0)
theorem SameT.refl (ts : List Tk) : SameT ts ts := ⟨rfl, fun _ => ⟨rfl, rfl, rfl, rfl, SameM.refl _, SameM.refl _, rfl, rfl⟩⟩
theorem same_rs {a b : List (Im × Im)} (h : SameM (fl2 a) (fl2 b)) : b.length = a.length := by
  have := h.1
  rw [fl2_len, fl2_len] at this
  omega

end Go.Proofs.YtoppccfgcccijaaDoor