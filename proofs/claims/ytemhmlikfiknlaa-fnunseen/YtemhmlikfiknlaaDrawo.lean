/- The contract of the draw of a yes or no. For codes of at most 2^21 bytes. -/
import Derived.Test.YtemhmlikfiknlaaDraw
namespace Go.Proofs.Ytemhmlikfiknlaa
open Go.RowKit

theorem grown_new {a b c : World} {g : Nat} {row : Option Nat} (h : a.grownBy b (some g)) (k : b.grownBy c row) (hr : ∀ r, row = some r → a.heap.size ≤ r) : a.grownBy c (some g) :=
  ⟨k.os.trans h.os, k.tape.trans h.tape, k.output.trans h.output, Nat.le_trans h.size k.size, fun i hi hne => (k.block i (Nat.lt_of_lt_of_le hi h.size) (fun e => by have := hr i e.symm; omega)).trans (h.block i hi hne)⟩
theorem bd_snoc {L : List Int} {y : Int} (hb : ∀ i, 0 ≤ L.getD i 0 ∧ L.getD i 0 ≤ 255) (h0 : 0 ≤ y) (h1 : y ≤ 255) : ∀ i, 0 ≤ (L ++ [y]).getD i 0 ∧ (L ++ [y]).getD i 0 ≤ 255 := by
  intro i
  by_cases h : i < L.length
  · have := hb i
    rwa [List.getD_eq_getElem?_getD, List.getElem?_append_left h, ← List.getD_eq_getElem?_getD]
  · rw [List.getD_eq_getElem?_getD, List.getElem?_append_right (by omega)]
    by_cases e : i - L.length = 0
    · rw [e]; simpa using ⟨h0, h1⟩
    · rw [List.getElem?_eq_none (by simp; omega)]; simp
/-- A slice's length, for a measure. -/
def lenOf : Value → Nat | .slice _ n _ => n | _ => 0
theorem own_base {w : World} {base base' : Nat} {e : TypeId} {s : Nat} {v : Value} {n : Nat} {xs : List Value} (h : w.ownsRow base e s v n xs) (hb : base' ≤ base) : w.ownsRow base' e s v n xs := by
  refine ⟨h.1, ?_⟩
  rcases h.2 with h2 | ⟨g, cap, cur, hv, hg, r⟩
  · exact .inl h2
  · exact .inr ⟨g, cap, cur, hv, Nat.le_trans hb hg, r⟩
theorem Cur.lt {w : World} {g : Nat} {ad : Option Addr} {n cap : Nat} {zs : List Int} (c : Cur w g ad n cap zs) : g < w.heap.size := by
  obtain ⟨i, h, _, hr⟩ := c.row
  exact (Array.getElem?_eq_some_iff.1 hr).1
theorem Cur.alloc {w : World} {g : Nat} {ad : Option Addr} {n cap : Nat} {zs : List Int} (c : Cur w g ad n cap zs) (o : Obj) : Cur (w.alloc o) g ad n cap zs :=
  c.below ((Below.refl w.heap.size w).alloc (Nat.le_refl _) o) (Nat.le_refl _)

set_option maxRecDepth 100000 in
set_option maxHeartbeats 1600000 in
theorem l1Once {w : World} {g : Nat} {ad : Option Addr} {n cap : Nat} {zs : List Int} (c : Cur w g ad n cap zs) (hn : n ≤ 2097152) (m : Int) (hm : 0 < m) (hm' : m ≤ 1000000) :
    Calls Try.prog 44 #[.pointer (some ⟨g, 0, none⟩), .int .i64 m] w fun e w' => ∃ b : Bool, e = .returned (.bool b) ∧ Cur w' g ad n cap zs ∧ w.grownBy w' (some g) := by
  go_enter Try.func44, Try.ntmps44
  go_wp2_with fail
  refine (l1Below c hn m hm hm').mono ?_
  rintro e w1 ⟨x, rfl, hx0, hx1, c1, g1⟩
  generalize hb : (x == 0) = b
  go_wp2_with fail
  go_ret
  exact ⟨_, rfl, c1, g1⟩

end Go.Proofs.Ytemhmlikfiknlaa
