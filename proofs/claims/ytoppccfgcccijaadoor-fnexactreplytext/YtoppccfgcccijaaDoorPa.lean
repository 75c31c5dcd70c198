/- The contracts of the laws' helpers over slices of byte slices: toByteSS, eqByteSS, szByteS, szByteSS, markByteSS, heldByteSS; such a slice that came in, read. Conditions: lists of at most 2^21 bytes together where memory is made or counted. -/
import Derived.Test.YtoppccfgcccijaaDoorJt
import Derived.Test.YtoppccfgcccijaaDoorMga
import Derived.Deep.RegionHeld3
import Derived.Laws.Tables
import Derived.Deep.SlicePairs
import Derived.Deep.Matrix
import Derived.Lib.SmallJoins
namespace Go.Proofs.YtoppccfgcccijaaDoor
open Go.RowKit Go.ChangeShapes Go.WideShapes Go.Deep
set_option maxRecDepth 100000

theorem Tryd.info22 : (Tryd.prog.info? 23).map (fun i => (i.zero, i.size, i.bytes)) = some (some (.slice none 0 0), 1, 24) := by kernel_rfl

theorem ReadsS.own {w : World} {lo lo' hi : Nat} {vS : Value} {ss : List (List Int)} {xs : List Value} (o : w.ownsRow lo 23 1 vS ss.length xs) (hB : Bands w lo' hi xs ss) : ∃ a c, vS = .slice a ss.length c ∧ ReadsS w a ss := by
  rcases o.2 with ⟨rfl, h0⟩ | ⟨g, cap, cur, rfl, _⟩
  · exact ⟨none, 0, by rw [h0], ⟨.inl h0⟩⟩
  · refine ⟨_, cap, rfl, ⟨.inr ⟨g, 0, rfl, fun i hi => ⟨xs.getD i nilS, ?_, hB.row i⟩⟩⟩⟩
    rw [Nat.zero_add, o.cellAt i (by omega), List.getD_eq_getElem?_getD]
    have hl := hB.len
    rw [List.getElem?_eq_getElem (by omega)]
    rfl

theorem toList_madeCells_one' (z : Value) (n : Nat) : (madeCells #[z] n).toList = List.replicate n z := toList_madeCells_one z n

theorem rep_drop (xs : List Value) (k n : Nat) (z v : Value) (hx : xs.length = k) (hk : k < n) : (xs ++ List.replicate (n - k) z).set k v = (xs ++ [v]) ++ List.replicate (n - (k + 1)) z := by
  rw [List.set_append_right _ _ (by omega), hx, Nat.sub_self, show n - k = (n - (k + 1)) + 1 by omega, List.replicate_succ, List.set_cons_zero]
  simp

theorem take_snoc {α : Type} (xs : List α) (k : Nat) (d : α) (h : k < xs.length) : xs.take (k + 1) = xs.take k ++ [xs.getD k d] := by
  rw [List.take_add_one, List.getElem?_eq_getElem h, Option.toList_some]
  simp [List.getD, h]

/-- What is left, or -1. -/
def lft (left : Int) (n : Nat) : Int := if left < n then -1 else left - n

theorem szByteSp (ad : Option Addr) (n cap : Nat) (left : Int) (hn : n ≤ 9223372036854775807) (h0 : 0 ≤ left) (h1 : left ≤ 1048576) (w : World) :
    Calls Tryd.prog 25 #[.slice ad n cap, .int .i64 left] w fun e w' => e = .returned (.int .i64 (lft left n)) ∧ w' = w := by
  unfold lft
  have a1 : (0 : Int) ≤ (n : Int) := by omega
  have a2 : (n : Int) ≤ 9223372036854775807 := by omega
  by_cases h : left < n
  · rw [if_pos h]
    have q : left - (n : Int) < 0 := by omega
    go_enter Tryd.func25, Tryd.ntmps25
    go_wp2
    go_ret
    exact ⟨rfl, rfl⟩
  · rw [if_neg h]
    have q : ¬ left - (n : Int) < 0 := by omega
    go_enter Tryd.func25, Tryd.ntmps25
    go_wp2
    go_ret
    exact ⟨rfl, rfl⟩

theorem getD_left {α : Type} (xs ys : List α) (i : Nat) (d : α) (h : i < xs.length) : (xs ++ ys).getD i d = xs.getD i d := by rw [getD_app, if_pos h]

theorem getD_right {α : Type} (xs ys : List α) (i : Nat) (d : α) : (xs ++ ys).getD (xs.length + i) d = ys.getD i d := by rw [getD_app, if_neg (by omega), show xs.length + i - xs.length = i by omega]

theorem cell_getD {w : World} {lo n : Nat} {g cap : Nat} {xs : List Value} (o : w.ownsRow lo 23 1 (.slice (some ⟨g, 0, none⟩) n cap) n xs) {i : Nat} (hi : i < n) : w.cell? ⟨g, i, none⟩ = some (xs.getD i nilS) := by
  rw [o.cellAt i (by omega), List.getD_eq_getElem?_getD]
  have := o.1
  rw [List.getElem?_eq_getElem (by omega)]
  rfl

theorem addr_plain {w : World} {a : Addr} {v : Value} (h : w.cell? (a.add 0) = some v) : ∃ b off, a = ⟨b, off, none⟩ := by
  obtain ⟨b, off, spot⟩ := a
  have hspot : spot = none := by simpa [Addr.add] using World.cell?_spot h
  subst hspot
  exact ⟨b, off, rfl⟩

theorem add_at (b off k : Nat) : (⟨b, off, none⟩ : Addr).add k = ⟨b, off + k, none⟩ := Go.WideShapes.add_plain b off k

theorem row_in {w : World} {a : Option Addr} {len cap : Nat} {zs : List Int}
    (h : (a = none ∧ len = 0 ∧ cap = 0 ∧ zs = []) ∨ ∃ x, a = some x ∧ len ≤ cap ∧ cap ≤ maxLen ∧ zs.length = cap ∧ (∀ i, i < zs.length → w.cell? (x.add i) = some (.int .u8 (zs.getD i 0))) ∧ ∀ n ∈ zs, (Lit.int .u8 n).wf = true) :
    Row w (.slice a len cap) (zs.take len) := by
  have r := reads_in h
  have hl := r.len
  have hm := len_in h
  refine ⟨a, cap, by rw [hl], by rw [hl]; exact r, ?_, by omega⟩
  intro ha
  rcases h with ⟨_, _, h, _⟩ | ⟨x, hx, _⟩
  · exact h
  · rw [ha] at hx; cases hx

section
variable {H : Type} {enc : TypeId × Value → H} {w : World} {base : Nat} {held : Bool}
end
end Go.Proofs.YtoppccfgcccijaaDoor
