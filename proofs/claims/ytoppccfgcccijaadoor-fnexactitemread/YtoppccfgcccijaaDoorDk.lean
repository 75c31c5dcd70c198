/- Plain notions for disks in memory: rows of byte rows, each in a block of its own; what they keep. No statement of its own; no conditions. -/
import Derived.Test.YtoppccfgcccijaaDoorMga
namespace Go.Proofs.YtoppccfgcccijaaDoor
open Go.RowKit

/-- The blocks lo .. hi stand as they stood. -/
def Agree (lo hi : Nat) (w w' : World) : Prop := ∀ k, lo ≤ k → k < hi → w'.heap[k]? = w.heap[k]?
theorem Agree.refl (lo hi : Nat) (w : World) : Agree lo hi w w := fun _ _ _ => rfl
theorem Agree.below {B lo hi : Nat} {w w' : World} (h : Below B w w') (hh : hi ≤ B) : Agree lo hi w w' := fun k _ h2 => h.block k (by omega)
theorem Agree.trans {lo hi : Nat} {a b c : World} (h : Agree lo hi a b) (k : Agree lo hi b c) : Agree lo hi a c := fun i h1 h2 => (k i h1 h2).trans (h i h1 h2)

/-- Nothing but the blocks lo .. hi has turned. -/
structure Within (lo hi : Nat) (w w' : World) : Prop where
  os : w'.os = w.os
  tape : w'.tape = w.tape
  output : w'.output = w.output
  size : w.heap.size ≤ w'.heap.size
  block : ∀ k, k < w.heap.size → (k < lo ∨ hi ≤ k) → w'.heap[k]? = w.heap[k]?
theorem Within.refl (lo hi : Nat) (w : World) : Within lo hi w w := ⟨rfl, rfl, rfl, Nat.le_refl _, fun _ _ _ => rfl⟩
theorem Within.trans {lo hi : Nat} {a b c : World} (h : Within lo hi a b) (k : Within lo hi b c) : Within lo hi a c :=
  ⟨k.os.trans h.os, k.tape.trans h.tape, k.output.trans h.output, Nat.le_trans h.size k.size, fun i h1 h2 => (k.block i (Nat.lt_of_lt_of_le h1 h.size) h2).trans (h.block i h1 h2)⟩
theorem Within.below {lo hi : Nat} {w w' : World} (h : Within lo hi w w') (hl : lo ≤ w.heap.size) : Below lo w w' := ⟨h.os, h.tape, h.output, h.size, fun k hk => h.block k (by omega) (.inl hk)⟩
theorem Within.agree {lo hi a b : Nat} {w w' : World} (h : Within lo hi w w') (hb : b ≤ w.heap.size) (ho : b ≤ lo ∨ hi ≤ a) : Agree a b w w' := fun k h1 h2 => h.block k (by omega) (by omega)
theorem Within.of_below {B lo hi : Nat} {w w' : World} (h : Below B w w') (hB : w.heap.size ≤ B) : Within lo hi w w' := ⟨h.os, h.tape, h.output, h.size, fun k hk _ => h.block k (by omega)⟩
theorem Within.grown {lo hi : Nat} {w w' : World} {row : Option Nat} (h : w.grownBy w' row) (hr : ∀ k, row = some k → lo ≤ k ∧ k < hi) : Within lo hi w w' :=
  ⟨h.os, h.tape, h.output, h.size, fun k hk ho => h.block k hk (fun e => by have := hr k e.symm; omega)⟩
theorem Within.setCell {lo hi : Nat} (w : World) {p : Addr} (hp : lo ≤ p.block ∧ p.block < hi) (u : Value) : Within lo hi w (w.setCell p u) :=
  ⟨rfl, rfl, rfl, by simp [World.setCell], fun k _ ho => Below.heap_setCell _ _ _ _ (by omega)⟩

theorem owns_agree {w w' : World} {lo hi base : Nat} {e : TypeId} {s : Nat} {v : Value} {n : Nat} {xs : List Value} (ho : w.ownsRow base e s v n xs) (ha : Agree lo hi w w') (hb : ∀ g, v.ownBlock = some g → lo ≤ g ∧ g < hi) : w'.ownsRow base e s v n xs := by
  refine ⟨ho.1, ?_⟩
  rcases ho.2 with hn | ⟨g, cap, cur, rfl, hbg, hg, rest⟩
  · exact .inl hn
  · exact .inr ⟨g, cap, cur, rfl, hbg, by rw [ha g (hb g rfl).1 (hb g rfl).2]; exact hg, rest⟩
theorem owns_lower {w : World} {base base' : Nat} {e : TypeId} {s : Nat} {v : Value} {n : Nat} {xs : List Value} (h : w.ownsRow base e s v n xs) (hb : base' ≤ base) : w.ownsRow base' e s v n xs := by
  refine ⟨h.1, ?_⟩
  rcases h.2 with hn | ⟨g, cap, cur, rfl, hbg, hg, rest⟩
  · exact .inl hn
  · exact .inr ⟨g, cap, cur, rfl, Nat.le_trans hb hbg, hg, rest⟩
/-- Rows of two element types stand in two blocks. -/
theorem owns_ne {w : World} {b b' : Nat} {e e' : TypeId} {s s' : Nat} {v v' : Value} {n n' : Nat} {xs xs' : List Value} (h : w.ownsRow b e s v n xs) (h' : w.ownsRow b' e' s' v' n' xs') (hne : e ≠ e') : v.ownBlock = none ∨ v.ownBlock ≠ v'.ownBlock := by
  rcases h.2 with ⟨rfl, _⟩ | ⟨g, cap, cur, rfl, _, hg, _⟩
  · exact .inl rfl
  · right
    rcases h'.2 with ⟨rfl, _⟩ | ⟨g', cap', cur', rfl, _, hg', _⟩
    · simp [Value.ownBlock]
    · intro he
      simp only [Value.ownBlock, Option.some.injEq] at he
      subst he
      rw [hg] at hg'
      simp only [Option.some.injEq, Obj.cells.injEq] at hg'
      exact hne hg'.2.1

def nilS : Value := .slice none 0 0
theorem nilS_own : nilS.ownBlock = none := rfl
def Apart (a b : Value) : Prop := a.ownBlock = none ∨ a.ownBlock ≠ b.ownBlock
theorem Apart.symm {a b : Value} (h : Apart a b) : Apart b a := by
  rcases h with h | h
  · cases hb : b.ownBlock with
    | none => exact .inl hb
    | some k => exact .inr (by rw [hb, h]; simp)
  · exact .inr (fun e => h e.symm)

/-- A value that is a slice of bytes and reads as zs. -/
def Row (w : World) (v : Value) (zs : List Int) : Prop := ∃ a c, v = .slice a zs.length c ∧ Reads w a zs.length zs ∧ (a = none → c = 0) ∧ zs.length ≤ maxLen
theorem Row.below {w w' : World} {v : Value} {zs : List Int} (h : Row w v zs) {B : Nat} (hb : Below B w w') (hB : w.heap.size ≤ B) : Row w' v zs := by
  obtain ⟨a, c, h1, h2, h3⟩ := h
  exact ⟨a, c, h1, h2.below hb hB, h3⟩
theorem Row.own {w : World} {base : Nat} {v : Value} {n : Nat} {zs : List Int} (h : w.ownsRow base 5 1 v n (bys zs)) (hbd : ∀ i, 0 ≤ zs.getD i 0 ∧ zs.getD i 0 ≤ 255) : Row w v zs := by
  have hl : zs.length = n := by have := h.1; simpa [bys] using this
  obtain ⟨a, c, rfl, r, d⟩ := Reads.own h hbd
  subst hl
  refine ⟨a, c, rfl, r, ?_, ?_⟩
  · intro ha; subst ha
    rcases h.2 with ⟨h1, _⟩ | ⟨g, cap, cur, h1, _⟩
    · exact (Value.slice.inj h1).2.2
    · exact absurd (Value.slice.inj h1).1 (by simp)
  · rcases h.2 with ⟨_, h1⟩ | ⟨g, cap, cur, _, _, _, h1, h2, _⟩
    · rw [h1]; exact Nat.zero_le _
    · exact Nat.le_trans h1 h2

/-- Byte rows of the call's own: each in a block of its own within lo .. hi. -/
structure Bands (w : World) (lo hi : Nat) (xs : List Value) (ss : List (List Int)) : Prop where
  len : xs.length = ss.length
  own : ∀ i, w.ownsRow lo 5 1 (xs.getD i nilS) (ss.getD i []).length (bys (ss.getD i []))
  top : ∀ x ∈ xs, ∀ g, x.ownBlock = some g → g < hi
  apart : xs.Pairwise Apart
  bd : ∀ i j, 0 ≤ (ss.getD i []).getD j 0 ∧ (ss.getD i []).getD j 0 ≤ 255

theorem getD_mem_or {α : Type} (xs : List α) (i : Nat) (d : α) : xs.getD i d = d ∨ xs.getD i d ∈ xs := by
  by_cases h : i < xs.length
  · right
    rw [List.getD_eq_getElem?_getD, List.getElem?_eq_getElem h]
    exact List.getElem_mem h
  · left
    rw [List.getD_eq_getElem?_getD, List.getElem?_eq_none (by omega)]; rfl

theorem Bands.nil (w : World) (lo hi : Nat) : Bands w lo hi [] [] :=
  ⟨rfl, fun _ => World.ownsRow_nil _ _ _ _, fun x hx => (by cases hx), List.Pairwise.nil, fun i j => by simp⟩

theorem Bands.inr {w : World} {lo hi : Nat} {xs : List Value} {ss : List (List Int)} (h : Bands w lo hi xs ss) (i : Nat) : ∀ g, (xs.getD i nilS).ownBlock = some g → lo ≤ g ∧ g < hi := by
  intro g hg
  refine ⟨((h.own i).lt g hg).1, ?_⟩
  rcases getD_mem_or xs i nilS with e | e
  · rw [e] at hg; cases hg
  · exact h.top _ e g hg

theorem Bands.agree {w w' : World} {lo hi : Nat} {xs : List Value} {ss : List (List Int)} (h : Bands w lo hi xs ss) (ha : Agree lo hi w w') : Bands w' lo hi xs ss :=
  ⟨h.len, fun i => owns_agree (h.own i) ha (h.inr i), h.top, h.apart, h.bd⟩
theorem Bands.mono {w : World} {lo hi lo' hi' : Nat} {xs : List Value} {ss : List (List Int)} (h : Bands w lo hi xs ss) (hl : lo' ≤ lo) (hh : hi ≤ hi') : Bands w lo' hi' xs ss :=
  ⟨h.len, fun i => owns_lower (h.own i) hl, fun x hx g hg => Nat.lt_of_lt_of_le (h.top x hx g hg) hh, h.apart, h.bd⟩
theorem Bands.row {w : World} {lo hi : Nat} {xs : List Value} {ss : List (List Int)} (h : Bands w lo hi xs ss) (i : Nat) : Row w (xs.getD i nilS) (ss.getD i []) := Row.own (h.own i) (h.bd i)

theorem getD_app {α : Type} (xs ys : List α) (i : Nat) (d : α) : (xs ++ ys).getD i d = if i < xs.length then xs.getD i d else ys.getD (i - xs.length) d := by
  simp only [List.getD_eq_getElem?_getD, List.getElem?_append]
  split <;> rfl
theorem getD_set' {α : Type} (xs : List α) (i j : Nat) (v d : α) (hi : i < xs.length) : (xs.set i v).getD j d = if j = i then v else xs.getD j d := by
  simp only [List.getD_eq_getElem?_getD, List.getElem?_set]
  by_cases h : i = j
  · subst h; simp [hi]
  · rw [if_neg h, if_neg (fun e => h e.symm)]

theorem Bands.append {w : World} {lo mid hi : Nat} {xs ys : List Value} {ss ts : List (List Int)} (h : Bands w lo mid xs ss) (k : Bands w mid hi ys ts) (h1 : lo ≤ mid) (h2 : mid ≤ hi) : Bands w lo hi (xs ++ ys) (ss ++ ts) := by
  refine ⟨by rw [List.length_append, List.length_append, h.len, k.len], ?_, ?_, ?_, ?_⟩
  · intro i
    rw [getD_app, getD_app, ← h.len]
    split
    · exact h.own i
    · exact owns_lower (k.own _) h1
  · intro x hx g hg
    rcases List.mem_append.1 hx with hx | hx
    · exact Nat.lt_of_lt_of_le (h.top x hx g hg) h2
    · exact k.top x hx g hg
  · refine List.pairwise_append.2 ⟨h.apart, k.apart, fun a ha b hb => ?_⟩
    cases hA : a.ownBlock with
    | none => exact .inl hA
    | some g =>
      refine .inr (fun e => ?_)
      rw [hA] at e
      have h3 := h.top a ha g hA
      obtain ⟨i, hi, rfl⟩ := List.mem_iff_getElem.1 hb
      have := (k.inr i g (by rw [List.getD_eq_getElem?_getD, List.getElem?_eq_getElem hi]; exact e.symm)).1
      omega
  · intro i j
    rw [getD_app]
    split
    · exact h.bd i j
    · exact k.bd _ j

theorem Bands.one {w : World} {lo hi : Nat} {v : Value} {z : List Int} (h : w.ownsRow lo 5 1 v z.length (bys z)) (hb : ∀ j, 0 ≤ z.getD j 0 ∧ z.getD j 0 ≤ 255) (hh : w.heap.size ≤ hi) : Bands w lo hi [v] [z] := by
  refine ⟨rfl, ?_, ?_, List.pairwise_singleton _ _, ?_⟩
  · intro i
    cases i with
    | zero => exact h
    | succ i => simpa [bys, nilS] using World.ownsRow_nil w lo 5 1
  · intro x hx g hg
    obtain rfl := List.mem_singleton.1 hx
    exact Nat.lt_of_lt_of_le (h.lt g hg).2 hh
  · intro i j
    cases i with
    | zero => exact hb j
    | succ i => simp
theorem Bands.snoc {w : World} {lo mid hi : Nat} {xs : List Value} {ss : List (List Int)} {v : Value} {z : List Int} (h : Bands w lo mid xs ss) (h1 : lo ≤ mid) (h2 : mid ≤ hi) (o : w.ownsRow mid 5 1 v z.length (bys z)) (hb : ∀ j, 0 ≤ z.getD j 0 ∧ z.getD j 0 ≤ 255) (hh : w.heap.size ≤ hi) : Bands w lo hi (xs ++ [v]) (ss ++ [z]) :=
  h.append (Bands.one o hb hh) h1 h2
theorem Bands.left {w : World} {lo hi : Nat} {xs ys : List Value} {ss ts : List (List Int)} (h : Bands w lo hi (xs ++ ys) (ss ++ ts)) (hl : xs.length = ss.length) : Bands w lo hi xs ss := by
  refine ⟨hl, ?_, fun x hx => h.top x (List.mem_append.2 (.inl hx)), (List.pairwise_append.1 h.apart).1, ?_⟩
  · intro i
    by_cases hi : i < xs.length
    · have := h.own i
      rw [getD_app, getD_app, ← hl, if_pos hi, if_pos hi] at this
      exact this
    · rw [List.getD_eq_getElem?_getD, List.getD_eq_getElem?_getD, List.getElem?_eq_none (by omega), List.getElem?_eq_none (by omega)]
      exact World.ownsRow_nil _ _ _ _
  · intro i j
    by_cases hi : i < ss.length
    · have := h.bd i j
      rw [getD_app, if_pos hi] at this
      exact this
    · rw [List.getD_eq_getElem?_getD (l := ss), List.getElem?_eq_none (by omega)]; simp
theorem Bands.right {w : World} {lo hi : Nat} {xs ys : List Value} {ss ts : List (List Int)} (h : Bands w lo hi (xs ++ ys) (ss ++ ts)) (hl : xs.length = ss.length) : Bands w lo hi ys ts := by
  refine ⟨?_, ?_, fun x hx => h.top x (List.mem_append.2 (.inr hx)), (List.pairwise_append.1 h.apart).2.1, ?_⟩
  · have := h.len
    rw [List.length_append, List.length_append] at this
    omega
  · intro i
    have := h.own (xs.length + i)
    rw [getD_app, getD_app, ← hl, if_neg (by omega), if_neg (by omega), show xs.length + i - xs.length = i by omega] at this
    exact this
  · intro i j
    have := h.bd (ss.length + i) j
    rw [getD_app, if_neg (by omega), show ss.length + i - ss.length = i by omega] at this
    exact this

/-- One of the rows is written. -/
theorem Bands.put {w w' : World} {lo hi : Nat} {xs : List Value} {ss : List (List Int)} (h : Bands w lo hi xs ss) {i : Nat} (hi' : i < ss.length) {z : List Int}
    (hg : w.grownBy w' (xs.getD i nilS).ownBlock) (o : w'.ownsRow lo 5 1 (xs.getD i nilS) z.length (bys z)) (hb : ∀ j, 0 ≤ z.getD j 0 ∧ z.getD j 0 ≤ 255) : Bands w' lo hi xs (ss.set i z) := by
  refine ⟨by rw [List.length_set]; exact h.len, ?_, h.top, h.apart, ?_⟩
  · intro j
    rw [getD_set' ss i j z [] hi']
    split
    · rename_i e; subst e; exact o
    · rename_i e
      refine (h.own j).kept hg ?_
      by_cases hj : j < xs.length
      · have hl := h.len
        have hx : ∀ a b, a < b → b < xs.length → Apart (xs.getD a nilS) (xs.getD b nilS) := by
          intro a b hab hbl
          have := List.pairwise_iff_getElem.1 h.apart a b (by omega) hbl hab
          rw [List.getD_eq_getElem?_getD, List.getD_eq_getElem?_getD, List.getElem?_eq_getElem hbl, List.getElem?_eq_getElem (show a < xs.length by omega)]
          exact this
        by_cases hij : j < i
        · exact hx j i hij (by omega)
        · exact (hx i j (by omega) hj).symm
      · left
        rw [List.getD_eq_getElem?_getD, List.getElem?_eq_none (by omega)]; rfl
  · intro j q
    rw [getD_set' ss i j z [] hi']
    split
    · exact hb q
    · exact h.bd j q

/-- Another row, of another element type, is written. -/
theorem Bands.beside {w w' : World} {lo hi : Nat} {xs : List Value} {ss : List (List Int)} (h : Bands w lo hi xs ss) {row : Option Nat} (hg : w.grownBy w' row) (hne : ∀ i, (xs.getD i nilS).ownBlock = none ∨ (xs.getD i nilS).ownBlock ≠ row) : Bands w' lo hi xs ss :=
  ⟨h.len, fun i => (h.own i).kept hg (hne i), h.top, h.apart, h.bd⟩

/-- One row is changed for a new one. -/
theorem Bands.swap {w : World} {lo mid hi : Nat} {xs : List Value} {ss : List (List Int)} (h : Bands w lo mid xs ss) (h1 : lo ≤ mid) (h2 : mid ≤ hi) {i : Nat} (hi' : i < ss.length) {v : Value} {z : List Int}
    (o : w.ownsRow mid 5 1 v z.length (bys z)) (hb : ∀ j, 0 ≤ z.getD j 0 ∧ z.getD j 0 ≤ 255) (hh : w.heap.size ≤ hi) : Bands w lo hi (xs.set i v) (ss.set i z) := by
  have hl := h.len
  have hfar : ∀ j, Apart (xs.getD j nilS) v := by
    intro j
    cases hA : (xs.getD j nilS).ownBlock with
    | none => exact .inl hA
    | some g =>
      refine .inr (fun e => ?_)
      have h3 := (h.inr j g hA).2
      rw [hA] at e
      have := (o.lt g e.symm).1
      omega
  refine ⟨by rw [List.length_set, List.length_set]; exact hl, ?_, ?_, ?_, ?_⟩
  · intro j
    rw [getD_set' ss i j z [] hi', getD_set' xs i j v nilS (by omega)]
    split
    · exact owns_lower o h1
    · exact h.own j
  · intro x hx g hg
    rcases List.mem_or_eq_of_mem_set hx with hx | rfl
    · exact Nat.lt_of_lt_of_le (h.top x hx g hg) h2
    · exact Nat.lt_of_lt_of_le (o.lt g hg).2 hh
  · refine List.pairwise_iff_getElem.2 fun a b ha hb' hab => ?_
    rw [List.length_set] at ha hb'
    have e : ∀ q (hq : q < (xs.set i v).length), (xs.set i v)[q] = (xs.set i v).getD q nilS := fun q hq => by rw [List.getD_eq_getElem?_getD, List.getElem?_eq_getElem hq]; rfl
    have e' : ∀ q (hq : q < xs.length), xs[q] = xs.getD q nilS := fun q hq => by rw [List.getD_eq_getElem?_getD, List.getElem?_eq_getElem hq]; rfl
    rw [e, e, getD_set' xs i a v nilS (by omega), getD_set' xs i b v nilS (by omega)]
    by_cases h3 : a = i
    · rw [if_pos h3, if_neg (by omega)]; exact (hfar b).symm
    · rw [if_neg h3]
      by_cases h4 : b = i
      · rw [if_pos h4]; exact hfar a
      · rw [if_neg h4]
        have := List.pairwise_iff_getElem.1 h.apart a b ha hb' hab
        rw [e', e'] at this
        exact this
  · intro j q
    rw [getD_set' ss i j z [] hi']
    split
    · exact hb q
    · exact h.bd j q
end Go.Proofs.YtoppccfgcccijaaDoor
