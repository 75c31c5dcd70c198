/- Plain notions for disks in memory: rows of byte rows, each in a block of its own; what they keep. No statement of its own; no conditions. -/
import Derived.Test.YtnbpblephmjfnaaMga
namespace Go.Proofs.Ytnbpblephmjfnaa
open Go.RowKit
def Agree (lo hi : Nat) (w w' : World) : Prop := ∀ k, lo ≤ k → k < hi → w'.heap[k]? = w.heap[k]?
theorem Agree.below {B lo hi : Nat} {w w' : World} (h : Below B w w') (hh : hi ≤ B) : Agree lo hi w w' := fun k _ h2 => h.block k (by omega)
theorem Agree.trans {lo hi : Nat} {a b c : World} (h : Agree lo hi a b) (k : Agree lo hi b c) : Agree lo hi a c := fun i h1 h2 => (k i h1 h2).trans (h i h1 h2)
structure Within (lo hi : Nat) (w w' : World) : Prop where
 os : w'.os = w.os
 tape : w'.tape = w.tape
 output : w'.output = w.output
 size : w.heap.size ≤ w'.heap.size
 block : ∀ k, k < w.heap.size → (k < lo ∨ hi ≤ k) → w'.heap[k]? = w.heap[k]?
theorem Within.trans {lo hi : Nat} {a b c : World} (h : Within lo hi a b) (k : Within lo hi b c) : Within lo hi a c :=
 ⟨k.os.trans h.os, k.tape.trans h.tape, k.output.trans h.output, Nat.le_trans h.size k.size, fun i h1 h2 => (k.block i (Nat.lt_of_lt_of_le h1 h.size) h2).trans (h.block i h1 h2)⟩
theorem Within.below {lo hi : Nat} {w w' : World} (h : Within lo hi w w') (hl : lo ≤ w.heap.size) : Below lo w w' := ⟨h.os, h.tape, h.output, h.size, fun k hk => h.block k (by omega) (.inl hk)⟩
theorem Within.agree {lo hi a b : Nat} {w w' : World} (h : Within lo hi w w') (hb : b ≤ w.heap.size) (ho : b ≤ lo ∨ hi ≤ a) : Agree a b w w' := fun k h1 h2 => h.block k (by omega) (by omega)
theorem owns_agree {w w' : World} {lo hi base : Nat} {e : TypeId} {s : Nat} {v : Value} {n : Nat} {xs : List Value} (ho : w.ownsRow base e s v n xs) (ha : Agree lo hi w w') (hb : ∀ g, v.ownBlock = some g → lo ≤ g ∧ g < hi) : w'.ownsRow base e s v n xs := by
 refine ⟨ho.1, ?_⟩
 rcases ho.2 with hn | ⟨g, cap, cur, rfl, hbg, hg, rest⟩
 · exact .inl hn
 · exact .inr ⟨g, cap, cur, rfl, hbg, by rw [ha g (hb g rfl).1 (hb g rfl).2]; exact hg, rest⟩
def nilS : Value := .slice none 0 0
def Apart (a b : Value) : Prop := a.ownBlock = none ∨ a.ownBlock ≠ b.ownBlock
def Row (w : World) (v : Value) (zs : List Int) : Prop := ∃ a c, v = .slice a zs.length c ∧ Reads w a zs.length zs ∧ (a = none → c = 0) ∧ zs.length ≤ maxLen
theorem Row.below {w w' : World} {v : Value} {zs : List Int} (h : Row w v zs) {B : Nat} (hb : Below B w w') (hB : w.heap.size ≤ B) : Row w' v zs := by
 obtain ⟨a, c, h1, h2, h3⟩ := h
 exact ⟨a, c, h1, h2.below hb hB, h3⟩
theorem Row.own {w : World} {base : Nat} {v : Value} {n : Nat} {zs : List Int} (h : w.ownsRow base 5 1 v n (bys zs)) (hbd : ∀ i, 0 ≤ zs.getD i 0 ∧ zs.getD i 0 ≤ 255) : Row w v zs := by
 have hl : zs.length = n := by have := h.1; simpa [bys] using this
 obtain ⟨a, c, rfl, r, d⟩ := Reads.own h hbd
 subst hl
 refine ⟨a, c, rfl, r, ?_, ?_⟩
 · intro ha; subst ha
   rcases h.2 with ⟨h1, _⟩ | ⟨g, cap, cur, h1, _⟩
   · exact (Value.slice.inj h1).2.2
   · exact absurd (Value.slice.inj h1).1 (by simp)
 · rcases h.2 with ⟨_, h1⟩ | ⟨g, cap, cur, _, _, _, h1, h2, _⟩
   · rw [h1]; exact Nat.zero_le _
   · exact Nat.le_trans h1 h2
structure Bands (w : World) (lo hi : Nat) (xs : List Value) (ss : List (List Int)) : Prop where
 len : xs.length = ss.length
 own : ∀ i, w.ownsRow lo 5 1 (xs.getD i nilS) (ss.getD i []).length (bys (ss.getD i []))
 top : ∀ x ∈ xs, ∀ g, x.ownBlock = some g → g < hi
 apart : xs.Pairwise Apart
 bd : ∀ i j, 0 ≤ (ss.getD i []).getD j 0 ∧ (ss.getD i []).getD j 0 ≤ 255
theorem getD_mem_or {α : Type} (xs : List α) (i : Nat) (d : α) : xs.getD i d = d ∨ xs.getD i d ∈ xs := by
 by_cases h : i < xs.length
 · right
   rw [List.getD_eq_getElem?_getD, List.getElem?_eq_getElem h]
   exact List.getElem_mem h
 · left
   rw [List.getD_eq_getElem?_getD, List.getElem?_eq_none (by omega)]; rfl
theorem Bands.inr {w : World} {lo hi : Nat} {xs : List Value} {ss : List (List Int)} (h : Bands w lo hi xs ss) (i : Nat) : ∀ g, (xs.getD i nilS).ownBlock = some g → lo ≤ g ∧ g < hi := by
 intro g hg
 refine ⟨((h.own i).lt g hg).1, ?_⟩
 rcases getD_mem_or xs i nilS with e | e
 · rw [e] at hg; cases hg
 · exact h.top _ e g hg
theorem Bands.agree {w w' : World} {lo hi : Nat} {xs : List Value} {ss : List (List Int)} (h : Bands w lo hi xs ss) (ha : Agree lo hi w w') : Bands w' lo hi xs ss :=
 ⟨h.len, fun i => owns_agree (h.own i) ha (h.inr i), h.top, h.apart, h.bd⟩
theorem Bands.row {w : World} {lo hi : Nat} {xs : List Value} {ss : List (List Int)} (h : Bands w lo hi xs ss) (i : Nat) : Row w (xs.getD i nilS) (ss.getD i []) := Row.own (h.own i) (h.bd i)
theorem getD_app {α : Type} (xs ys : List α) (i : Nat) (d : α) : (xs ++ ys).getD i d = if i < xs.length then xs.getD i d else ys.getD (i - xs.length) d := by
 simp only [List.getD_eq_getElem?_getD, List.getElem?_append]
 split <;> rfl
theorem Bands.one {w : World} {lo hi : Nat} {v : Value} {z : List Int} (h : w.ownsRow lo 5 1 v z.length (bys z)) (hb : ∀ j, 0 ≤ z.getD j 0 ∧ z.getD j 0 ≤ 255) (hh : w.heap.size ≤ hi) : Bands w lo hi [v] [z] := by
 refine ⟨rfl, ?_, ?_, List.pairwise_singleton _ _, ?_⟩
 · intro i
   cases i with
   | zero => exact h
   | succ i => simpa [bys, nilS] using World.ownsRow_nil w lo 5 1
 · intro x hx g hg
   obtain rfl := List.mem_singleton.1 hx
   exact Nat.lt_of_lt_of_le (h.lt g hg).2 hh
 · intro i j
   cases i with
   | zero => exact hb j
   | succ i => simp
theorem Bands.left {w : World} {lo hi : Nat} {xs ys : List Value} {ss ts : List (List Int)} (h : Bands w lo hi (xs ++ ys) (ss ++ ts)) (hl : xs.length = ss.length) : Bands w lo hi xs ss := by
 refine ⟨hl, ?_, fun x hx => h.top x (List.mem_append.2 (.inl hx)), (List.pairwise_append.1 h.apart).1, ?_⟩
 · intro i
   by_cases hi : i < xs.length
   · have := h.own i
     rw [getD_app, getD_app, ← hl, if_pos hi, if_pos hi] at this
     exact this
   · rw [List.getD_eq_getElem?_getD, List.getD_eq_getElem?_getD, List.getElem?_eq_none (by omega), List.getElem?_eq_none (by omega)]
     exact World.ownsRow_nil _ _ _ _
 · intro i j
   by_cases hi : i < ss.length
   · have := h.bd i j
     rw [getD_app, if_pos hi] at this
     exact this
   · rw [List.getD_eq_getElem?_getD (l := ss), List.getElem?_eq_none (by omega)]; simp
theorem Bands.right {w : World} {lo hi : Nat} {xs ys : List Value} {ss ts : List (List Int)} (h : Bands w lo hi (xs ++ ys) (ss ++ ts)) (hl : xs.length = ss.length) : Bands w lo hi ys ts := by
 refine ⟨?_, ?_, fun x hx => h.top x (List.mem_append.2 (.inr hx)), (List.pairwise_append.1 h.apart).2.1, ?_⟩
 · have := h.len
   rw [List.length_append, List.length_append] at this
   omega
 · intro i
   have := h.own (xs.length + i)
   rw [getD_app, getD_app, ← hl, if_neg (by omega), if_neg (by omega), show xs.length + i - xs.length = i by omega] at this
   exact this
 · intro i j
   have := h.bd (ss.length + i) j
   rw [getD_app, if_neg (by omega), show ss.length + i - ss.length = i by omega] at this
   exact this
end Go.Proofs.Ytnbpblephmjfnaa
