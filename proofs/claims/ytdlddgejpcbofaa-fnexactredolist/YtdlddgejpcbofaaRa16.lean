/- RedoList, plain. Conditions: none. -/
import Derived.Test.YtdlddgejpcbofaaRp
import Derived.Test.YtdlddgejpcbofaaRl
import Derived.Test.YtdlddgejpcbofaaSb8r
import Derived.Test.YtdlddgejpcbofaaSc8r
namespace Go.Proofs.Ytdlddgejpcbofaa
open Go.RowKit
set_option maxRecDepth 100000

/-- Record by record: the statuses and the number after; none: a record is wrong. -/
def rdF : List Rc → List Int → Int → Option (List Int × Int)
  | [], l, nx => some (l, nx)
  | r :: rs, l, nx => if okR r = true then rdF rs (if r.K = 5 then setS l r.X 1 else l) (if nx ≤ r.X then r.X + 1 else nx) else none
/-- What RedoList answers. -/
def redoL (l : List Int) (rs : List Rc) (nx : Int) : List Int × Int := if l.length ≤ 401 ∧ 1 ≤ nx ∧ nx ≤ 401 then (match rdF rs l nx with
  | none => ([], 0)
  | some q => (settleS q.1 q.2, q.2)) else ([], 0)
theorem rdF_step {rs : List Rc} {k : Nat} (hk : k < rs.length) (l : List Int) (nx : Int) (h : okR (rs.getD k r0) = true) : rdF (rs.drop k) l nx = rdF (rs.drop (k + 1)) (if (rs.getD k r0).K = 5 then setS l (rs.getD k r0).X 1 else l) (if nx ≤ (rs.getD k r0).X then (rs.getD k r0).X + 1 else nx) := by
  rw [List.drop_eq_getElem_cons hk, rdF]
  have e : rs.getD k r0 = rs[k] := by simp [List.getD, hk]
  rw [e] at h ⊢
  rw [if_pos h]
theorem rdF_bad {rs : List Rc} {k : Nat} (hk : k < rs.length) (l : List Int) (nx : Int) (h : okR (rs.getD k r0) = false) : rdF (rs.drop k) l nx = none := by
  rw [List.drop_eq_getElem_cons hk, rdF]
  have e : rs.getD k r0 = rs[k] := by simp [List.getD, hk]
  rw [e] at h
  rw [if_neg (by rw [h]; simp)]
theorem redo_no {l : List Int} {rs : List Rc} {nx : Int} (h : ¬ (l.length ≤ 401 ∧ 1 ≤ nx ∧ nx ≤ 401)) : redoL l rs nx = ([], 0) := by unfold redoL; rw [if_neg h]
theorem redo_none {l : List Int} {rs : List Rc} {nx : Int} (h : rdF rs l nx = none) : redoL l rs nx = ([], 0) := by
  unfold redoL
  split
  · rw [h]
  · rfl
theorem redo_some {l : List Int} {rs : List Rc} {nx : Int} {q : List Int × Int} (hl : l.length ≤ 401 ∧ 1 ≤ nx ∧ nx ≤ 401) (h : rdF rs l nx = some q) : redoL l rs nx = (settleS q.1 q.2, q.2) := by
  unfold redoL
  rw [if_pos hl, h]
theorem setS_len {l : List Int} (h : l.length ≤ 401) (x s : Int) : (setS l x s).length ≤ 401 := by
  cases hok : setOk l x s with
  | true =>
    have := setOk_of hok
    rw [setS_yes hok, List.length_set, grow_length]
    omega
  | false => unfold setS; rw [hok]; simp
theorem own_form16 {w : World} {B : Nat} {e : TypeId} {s : Nat} {v : Value} {m : Nat} {xs : List Value} (o : w.ownsRow B e s v m xs) : ∃ a c, v = .slice a m c := by
  rcases o.2 with ⟨e, h0⟩ | ⟨g, cap, cur, e, _⟩
  · exact ⟨none, 0, by rw [e, h0]⟩
  · exact ⟨_, _, e⟩
theorem own_nil16 {w : World} {base : Nat} {e : TypeId} {s n m c : Nat} {a : Option Addr} {xs : List Value} (o : w.ownsRow base e s (.slice a m c) n xs) : a = none → c = 0 := by
  intro h
  rcases o.2 with ⟨e, h0⟩ | ⟨g, cap, cur, e, _⟩
  · exact (Value.slice.inj e).2.2
  · have := (Value.slice.inj e).1
    rw [h] at this; cases this
theorem own_readsI16 {w : World} {base n m c : Nat} {a : Option Addr} {zs : List Int} (o : w.ownsRow base 3 1 (.slice a m c) n (ins zs)) (hb : ∀ i, -9223372036854775808 ≤ zs.getD i 0 ∧ zs.getD i 0 ≤ 9223372036854775807) : ReadsI w a n zs := by
  refine ⟨by have := o.1; rw [ins_length] at this; omega, ?_, hb⟩
  rcases o.2 with ⟨e, h0⟩ | ⟨g, cap, cur, e, _⟩
  · exact .inl h0
  · obtain ⟨rfl, e2, rfl⟩ := Value.slice.inj e
    subst e2
    refine .inr ⟨g, 0, rfl, fun i hi => ?_⟩
    rw [Nat.zero_add, o.cellAt i (by omega), getD_ins, List.getD_eq_getElem?_getD]
    have hl : i < zs.length := by have := o.1; rw [ins_length] at this; omega
    rw [List.getElem?_eq_getElem hl]; rfl
end Go.Proofs.Ytdlddgejpcbofaa
