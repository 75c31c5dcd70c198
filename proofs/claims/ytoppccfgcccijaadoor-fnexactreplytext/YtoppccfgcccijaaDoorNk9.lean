/- Rows of whole numbers, apart from each other. No statement of its own; no conditions. -/
import Derived.Test.YtoppccfgcccijaaDoorNi
import Derived.Test.YtoppccfgcccijaaDoorMga
namespace Go.Proofs.YtoppccfgcccijaaDoor
open Go.RowKit
set_option maxRecDepth 100000

/-- A value that is a slice of bytes and reads as zs. -/
def RowI (w : World) (v : Value) (zs : List Int) : Prop := ∃ a c, v = .slice a zs.length c ∧ ReadsI w a zs.length zs ∧ (a = none → c = 0) ∧ zs.length ≤ maxLen
theorem RowI.below {w w' : World} {v : Value} {zs : List Int} (h : RowI w v zs) {B : Nat} (hb : Below B w w') (hB : w.heap.size ≤ B) : RowI w' v zs := by
  obtain ⟨a, c, h1, h2, h3⟩ := h
  exact ⟨a, c, h1, h2.below hb hB, h3⟩
theorem RowI.own {w : World} {base : Nat} {v : Value} {n : Nat} {zs : List Int} (h : w.ownsRow base 3 1 v n (ins zs)) (hbd : ∀ i, -9223372036854775808 ≤ zs.getD i 0 ∧ zs.getD i 0 ≤ 9223372036854775807) : RowI w v zs := by
  have hl : zs.length = n := by have := h.1; simpa [ins] using this
  obtain ⟨a, c, rfl, r, d⟩ := ReadsI.own h hbd
  subst hl
  refine ⟨a, c, rfl, r, ?_, ?_⟩
  · intro ha; subst ha
    rcases h.2 with ⟨h1, _⟩ | ⟨g, cap, cur, h1, _⟩
    · exact (Value.slice.inj h1).2.2
    · exact absurd (Value.slice.inj h1).1 (by simp)
  · rcases h.2 with ⟨_, h1⟩ | ⟨g, cap, cur, _, _, _, h1, h2, _⟩
    · rw [h1]; exact Nat.zero_le _
    · exact Nat.le_trans h1 h2
/-- Byte rows of the call's own: each in a block of its own within lo .. hi. -/
structure BandsI (w : World) (lo hi : Nat) (xs : List Value) (ss : List (List Int)) : Prop where
  len : xs.length = ss.length
  own : ∀ i, w.ownsRow lo 3 1 (xs.getD i nilS) (ss.getD i []).length (ins (ss.getD i []))
  top : ∀ x ∈ xs, ∀ g, x.ownBlock = some g → g < hi
  apart : xs.Pairwise Apart
  bd : ∀ i j, -9223372036854775808 ≤ (ss.getD i []).getD j 0 ∧ (ss.getD i []).getD j 0 ≤ 9223372036854775807
theorem BandsI.nil (w : World) (lo hi : Nat) : BandsI w lo hi [] [] :=
  ⟨rfl, fun _ => World.ownsRow_nil _ _ _ _, fun x hx => (by cases hx), List.Pairwise.nil, fun i j => by simp⟩
theorem BandsI.inr {w : World} {lo hi : Nat} {xs : List Value} {ss : List (List Int)} (h : BandsI w lo hi xs ss) (i : Nat) : ∀ g, (xs.getD i nilS).ownBlock = some g → lo ≤ g ∧ g < hi := by
  intro g hg
  refine ⟨((h.own i).lt g hg).1, ?_⟩
  rcases getD_mem_or xs i nilS with e | e
  · rw [e] at hg; cases hg
  · exact h.top _ e g hg
theorem BandsI.agree {w w' : World} {lo hi : Nat} {xs : List Value} {ss : List (List Int)} (h : BandsI w lo hi xs ss) (ha : Agree lo hi w w') : BandsI w' lo hi xs ss :=
  ⟨h.len, fun i => owns_agree (h.own i) ha (h.inr i), h.top, h.apart, h.bd⟩
theorem BandsI.mono {w : World} {lo hi lo' hi' : Nat} {xs : List Value} {ss : List (List Int)} (h : BandsI w lo hi xs ss) (hl : lo' ≤ lo) (hh : hi ≤ hi') : BandsI w lo' hi' xs ss :=
  ⟨h.len, fun i => owns_lower (h.own i) hl, fun x hx g hg => Nat.lt_of_lt_of_le (h.top x hx g hg) hh, h.apart, h.bd⟩
theorem BandsI.row {w : World} {lo hi : Nat} {xs : List Value} {ss : List (List Int)} (h : BandsI w lo hi xs ss) (i : Nat) : RowI w (xs.getD i nilS) (ss.getD i []) := RowI.own (h.own i) (h.bd i)
theorem BandsI.append {w : World} {lo mid hi : Nat} {xs ys : List Value} {ss ts : List (List Int)} (h : BandsI w lo mid xs ss) (k : BandsI w mid hi ys ts) (h1 : lo ≤ mid) (h2 : mid ≤ hi) : BandsI w lo hi (xs ++ ys) (ss ++ ts) := by
  refine ⟨by rw [List.length_append, List.length_append, h.len, k.len], ?_, ?_, ?_, ?_⟩
  · intro i
    rw [getD_app, getD_app, ← h.len]
    split
    · exact h.own i
    · exact owns_lower (k.own _) h1
  · intro x hx g hg
    rcases List.mem_append.1 hx with hx | hx
    · exact Nat.lt_of_lt_of_le (h.top x hx g hg) h2
    · exact k.top x hx g hg
  · refine List.pairwise_append.2 ⟨h.apart, k.apart, fun a ha b hb => ?_⟩
    cases hA : a.ownBlock with
    | none => exact .inl hA
    | some g =>
      refine .inr (fun e => ?_)
      rw [hA] at e
      have h3 := h.top a ha g hA
      obtain ⟨i, hi, rfl⟩ := List.mem_iff_getElem.1 hb
      have := (k.inr i g (by rw [List.getD_eq_getElem?_getD, List.getElem?_eq_getElem hi]; exact e.symm)).1
      omega
  · intro i j
    rw [getD_app]
    split
    · exact h.bd i j
    · exact k.bd _ j
theorem BandsI.one {w : World} {lo hi : Nat} {v : Value} {z : List Int} (h : w.ownsRow lo 3 1 v z.length (ins z)) (hb : ∀ j, -9223372036854775808 ≤ z.getD j 0 ∧ z.getD j 0 ≤ 9223372036854775807) (hh : w.heap.size ≤ hi) : BandsI w lo hi [v] [z] := by
  refine ⟨rfl, ?_, ?_, List.pairwise_singleton _ _, ?_⟩
  · intro i
    cases i with
    | zero => exact h
    | succ i => simpa [ins, nilS] using World.ownsRow_nil w lo 3 1
  · intro x hx g hg
    obtain rfl := List.mem_singleton.1 hx
    exact Nat.lt_of_lt_of_le (h.lt g hg).2 hh
  · intro i j
    cases i with
    | zero => exact hb j
    | succ i => simp
theorem BandsI.snoc {w : World} {lo mid hi : Nat} {xs : List Value} {ss : List (List Int)} {v : Value} {z : List Int} (h : BandsI w lo mid xs ss) (h1 : lo ≤ mid) (h2 : mid ≤ hi) (o : w.ownsRow mid 3 1 v z.length (ins z)) (hb : ∀ j, -9223372036854775808 ≤ z.getD j 0 ∧ z.getD j 0 ≤ 9223372036854775807) (hh : w.heap.size ≤ hi) : BandsI w lo hi (xs ++ [v]) (ss ++ [z]) :=
  h.append (BandsI.one o hb hh) h1 h2
theorem BandsI.left {w : World} {lo hi : Nat} {xs ys : List Value} {ss ts : List (List Int)} (h : BandsI w lo hi (xs ++ ys) (ss ++ ts)) (hl : xs.length = ss.length) : BandsI w lo hi xs ss := by
  refine ⟨hl, ?_, fun x hx => h.top x (List.mem_append.2 (.inl hx)), (List.pairwise_append.1 h.apart).1, ?_⟩
  · intro i
    by_cases hi : i < xs.length
    · have := h.own i
      rw [getD_app, getD_app, ← hl, if_pos hi, if_pos hi] at this
      exact this
    · rw [List.getD_eq_getElem?_getD, List.getD_eq_getElem?_getD, List.getElem?_eq_none (by omega), List.getElem?_eq_none (by omega)]
      exact World.ownsRow_nil _ _ _ _
  · intro i j
    by_cases hi : i < ss.length
    · have := h.bd i j
      rw [getD_app, if_pos hi] at this
      exact this
    · rw [List.getD_eq_getElem?_getD (l := ss), List.getElem?_eq_none (by omega)]; simp
theorem BandsI.right {w : World} {lo hi : Nat} {xs ys : List Value} {ss ts : List (List Int)} (h : BandsI w lo hi (xs ++ ys) (ss ++ ts)) (hl : xs.length = ss.length) : BandsI w lo hi ys ts := by
  refine ⟨?_, ?_, fun x hx => h.top x (List.mem_append.2 (.inr hx)), (List.pairwise_append.1 h.apart).2.1, ?_⟩
  · have := h.len
    rw [List.length_append, List.length_append] at this
    omega
  · intro i
    have := h.own (xs.length + i)
    rw [getD_app, getD_app, ← hl, if_neg (by omega), if_neg (by omega), show xs.length + i - xs.length = i by omega] at this
    exact this
  · intro i j
    have := h.bd (ss.length + i) j
    rw [getD_app, if_neg (by omega), show ss.length + i - ss.length = i by omega] at this
    exact this
/-- One of the rows is written. -/
theorem BandsI.put {w w' : World} {lo hi : Nat} {xs : List Value} {ss : List (List Int)} (h : BandsI w lo hi xs ss) {i : Nat} (hi' : i < ss.length) {z : List Int}
    (hg : w.grownBy w' (xs.getD i nilS).ownBlock) (o : w'.ownsRow lo 3 1 (xs.getD i nilS) z.length (ins z)) (hb : ∀ j, -9223372036854775808 ≤ z.getD j 0 ∧ z.getD j 0 ≤ 9223372036854775807) : BandsI w' lo hi xs (ss.set i z) := by
  refine ⟨by rw [List.length_set]; exact h.len, ?_, h.top, h.apart, ?_⟩
  · intro j
    rw [getD_set' ss i j z [] hi']
    split
    · rename_i e; subst e; exact o
    · rename_i e
      refine (h.own j).kept hg ?_
      by_cases hj : j < xs.length
      · have hl := h.len
        have hx : ∀ a b, a < b → b < xs.length → Apart (xs.getD a nilS) (xs.getD b nilS) := by
          intro a b hab hbl
          have := List.pairwise_iff_getElem.1 h.apart a b (by omega) hbl hab
          rw [List.getD_eq_getElem?_getD, List.getD_eq_getElem?_getD, List.getElem?_eq_getElem hbl, List.getElem?_eq_getElem (show a < xs.length by omega)]
          exact this
        by_cases hij : j < i
        · exact hx j i hij (by omega)
        · exact (hx i j (by omega) hj).symm
      · left
        rw [List.getD_eq_getElem?_getD, List.getElem?_eq_none (by omega)]; rfl
  · intro j q
    rw [getD_set' ss i j z [] hi']
    split
    · exact hb q
    · exact h.bd j q
/-- Another row, of another element type, is written. -/
theorem BandsI.beside {w w' : World} {lo hi : Nat} {xs : List Value} {ss : List (List Int)} (h : BandsI w lo hi xs ss) {row : Option Nat} (hg : w.grownBy w' row) (hne : ∀ i, (xs.getD i nilS).ownBlock = none ∨ (xs.getD i nilS).ownBlock ≠ row) : BandsI w' lo hi xs ss :=
  ⟨h.len, fun i => (h.own i).kept hg (hne i), h.top, h.apart, h.bd⟩
/-- One row is changed for a new one. -/
theorem BandsI.swap {w : World} {lo mid hi : Nat} {xs : List Value} {ss : List (List Int)} (h : BandsI w lo mid xs ss) (h1 : lo ≤ mid) (h2 : mid ≤ hi) {i : Nat} (hi' : i < ss.length) {v : Value} {z : List Int}
    (o : w.ownsRow mid 3 1 v z.length (ins z)) (hb : ∀ j, -9223372036854775808 ≤ z.getD j 0 ∧ z.getD j 0 ≤ 9223372036854775807) (hh : w.heap.size ≤ hi) : BandsI w lo hi (xs.set i v) (ss.set i z) := by
  have hl := h.len
  have hfar : ∀ j, Apart (xs.getD j nilS) v := by
    intro j
    cases hA : (xs.getD j nilS).ownBlock with
    | none => exact .inl hA
    | some g =>
      refine .inr (fun e => ?_)
      have h3 := (h.inr j g hA).2
      rw [hA] at e
      have := (o.lt g e.symm).1
      omega
  refine ⟨by rw [List.length_set, List.length_set]; exact hl, ?_, ?_, ?_, ?_⟩
  · intro j
    rw [getD_set' ss i j z [] hi', getD_set' xs i j v nilS (by omega)]
    split
    · exact owns_lower o h1
    · exact h.own j
  · intro x hx g hg
    rcases List.mem_or_eq_of_mem_set hx with hx | rfl
    · exact Nat.lt_of_lt_of_le (h.top x hx g hg) h2
    · exact Nat.lt_of_lt_of_le (o.lt g hg).2 hh
  · refine List.pairwise_iff_getElem.2 fun a b ha hb' hab => ?_
    rw [List.length_set] at ha hb'
    have e : ∀ q (hq : q < (xs.set i v).length), (xs.set i v)[q] = (xs.set i v).getD q nilS := fun q hq => by rw [List.getD_eq_getElem?_getD, List.getElem?_eq_getElem hq]; rfl
    have e' : ∀ q (hq : q < xs.length), xs[q] = xs.getD q nilS := fun q hq => by rw [List.getD_eq_getElem?_getD, List.getElem?_eq_getElem hq]; rfl
    rw [e, e, getD_set' xs i a v nilS (by omega), getD_set' xs i b v nilS (by omega)]
    by_cases h3 : a = i
    · rw [if_pos h3, if_neg (by omega)]; exact (hfar b).symm
    · rw [if_neg h3]
      by_cases h4 : b = i
      · rw [if_pos h4]; exact hfar a
      · rw [if_neg h4]
        have := List.pairwise_iff_getElem.1 h.apart a b ha hb' hab
        rw [e', e'] at this
        exact this
  · intro j q
    rw [getD_set' ss i j z [] hi']
    split
    · exact hb q
    · exact h.bd j q
end Go.Proofs.YtoppccfgcccijaaDoor
