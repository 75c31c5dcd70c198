/- Texts of this proof in one: Dk Oty Jt Pa Pb Pc Rk Rk2 Rk3 Ps. -/
import Derived.Test.YtlkoghdajpbffaaGreatMga
import Derived.Laws.AppendOwnNone
import Derived.Test.YtlkoghdajpbffaaGreatMgd
import Derived.Deep.RegionHeld3
import Derived.Laws.Tables
import Derived.Deep.SlicePairs
import Derived.Deep.Matrix
import Derived.Lib.SmallJoins
import Derived.Deep.AppendLies
/- Plain notions for disks in memory: rows of byte rows, each in a block of its own; what they keep. No statement of its own; no conditions. -/

namespace Go.Proofs.YtlkoghdajpbffaaGreat
open Go.RowKit
def Agree (lo hi : Nat) (w w' : World) : Prop := ∀ k, lo ≤ k → k < hi → w'.heap[k]? = w.heap[k]?
theorem Agree.below {B lo hi : Nat} {w w' : World} (h : Below B w w') (hh : hi ≤ B) : Agree lo hi w w' := fun k _ h2 => h.block k (by omega)
structure Within (lo hi : Nat) (w w' : World) : Prop where
 os : w'.os = w.os
 tape : w'.tape = w.tape
 output : w'.output = w.output
 size : w.heap.size ≤ w'.heap.size
 block : ∀ k, k < w.heap.size → (k < lo ∨ hi ≤ k) → w'.heap[k]? = w.heap[k]?
theorem Within.refl (lo hi : Nat) (w : World) : Within lo hi w w := ⟨rfl, rfl, rfl, Nat.le_refl _, fun _ _ _ => rfl⟩
theorem Within.trans {lo hi : Nat} {a b c : World} (h : Within lo hi a b) (k : Within lo hi b c) : Within lo hi a c :=
 ⟨k.os.trans h.os, k.tape.trans h.tape, k.output.trans h.output, Nat.le_trans h.size k.size, fun i h1 h2 => (k.block i (Nat.lt_of_lt_of_le h1 h.size) h2).trans (h.block i h1 h2)⟩
theorem Within.below {lo hi : Nat} {w w' : World} (h : Within lo hi w w') (hl : lo ≤ w.heap.size) : Below lo w w' := ⟨h.os, h.tape, h.output, h.size, fun k hk => h.block k (by omega) (.inl hk)⟩
theorem Within.agree {lo hi a b : Nat} {w w' : World} (h : Within lo hi w w') (hb : b ≤ w.heap.size) (ho : b ≤ lo ∨ hi ≤ a) : Agree a b w w' := fun k h1 h2 => h.block k (by omega) (by omega)
theorem Within.of_below {B lo hi : Nat} {w w' : World} (h : Below B w w') (hB : w.heap.size ≤ B) : Within lo hi w w' := ⟨h.os, h.tape, h.output, h.size, fun k hk _ => h.block k (by omega)⟩
theorem Within.grown {lo hi : Nat} {w w' : World} {row : Option Nat} (h : w.grownBy w' row) (hr : ∀ k, row = some k → lo ≤ k ∧ k < hi) : Within lo hi w w' :=
 ⟨h.os, h.tape, h.output, h.size, fun k hk ho => h.block k hk (fun e => by have := hr k e.symm; omega)⟩
theorem Within.setCell {lo hi : Nat} (w : World) {p : Addr} (hp : lo ≤ p.block ∧ p.block < hi) (u : Value) : Within lo hi w (w.setCell p u) :=
 ⟨rfl, rfl, rfl, by simp [World.setCell], fun k _ ho => Below.heap_setCell _ _ _ _ (by omega)⟩
theorem owns_agree {w w' : World} {lo hi base : Nat} {e : TypeId} {s : Nat} {v : Value} {n : Nat} {xs : List Value} (ho : w.ownsRow base e s v n xs) (ha : Agree lo hi w w') (hb : ∀ g, v.ownBlock = some g → lo ≤ g ∧ g < hi) : w'.ownsRow base e s v n xs := by
 refine ⟨ho.1, ?_⟩
 rcases ho.2 with hn | ⟨g, cap, cur, rfl, hbg, hg, rest⟩
 · exact .inl hn
 · exact .inr ⟨g, cap, cur, rfl, hbg, by rw [ha g (hb g rfl).1 (hb g rfl).2]; exact hg, rest⟩
theorem owns_lower {w : World} {base base' : Nat} {e : TypeId} {s : Nat} {v : Value} {n : Nat} {xs : List Value} (h : w.ownsRow base e s v n xs) (hb : base' ≤ base) : w.ownsRow base' e s v n xs := by
 refine ⟨h.1, ?_⟩
 rcases h.2 with hn | ⟨g, cap, cur, rfl, hbg, hg, rest⟩
 · exact .inl hn
 · exact .inr ⟨g, cap, cur, rfl, Nat.le_trans hb hbg, hg, rest⟩
theorem owns_ne {w : World} {b b' : Nat} {e e' : TypeId} {s s' : Nat} {v v' : Value} {n n' : Nat} {xs xs' : List Value} (h : w.ownsRow b e s v n xs) (h' : w.ownsRow b' e' s' v' n' xs') (hne : e ≠ e') : v.ownBlock = none ∨ v.ownBlock ≠ v'.ownBlock := by
 rcases h.2 with ⟨rfl, _⟩ | ⟨g, cap, cur, rfl, _, hg, _⟩
 · exact .inl rfl
 · right
   rcases h'.2 with ⟨rfl, _⟩ | ⟨g', cap', cur', rfl, _, hg', _⟩
   · simp [Value.ownBlock]
   · intro he
     simp only [Value.ownBlock, Option.some.injEq] at he
     subst he
     rw [hg] at hg'
     simp only [Option.some.injEq, Obj.cells.injEq] at hg'
     exact hne hg'.2.1
def nilS : Value := .slice none 0 0
def Apart (a b : Value) : Prop := a.ownBlock = none ∨ a.ownBlock ≠ b.ownBlock
theorem Apart.symm {a b : Value} (h : Apart a b) : Apart b a := by
 rcases h with h | h
 · cases hb : b.ownBlock with
   | none => exact .inl hb
   | some k => exact .inr (by rw [hb, h]; simp)
 · exact .inr (fun e => h e.symm)
def Row (w : World) (v : Value) (zs : List Int) : Prop := ∃ a c, v = .slice a zs.length c ∧ Reads w a zs.length zs ∧ (a = none → c = 0) ∧ zs.length ≤ maxLen
theorem Row.below {w w' : World} {v : Value} {zs : List Int} (h : Row w v zs) {B : Nat} (hb : Below B w w') (hB : w.heap.size ≤ B) : Row w' v zs := by
 obtain ⟨a, c, h1, h2, h3⟩ := h
 exact ⟨a, c, h1, h2.below hb hB, h3⟩
theorem Row.own {w : World} {base : Nat} {v : Value} {n : Nat} {zs : List Int} (h : w.ownsRow base 5 1 v n (bys zs)) (hbd : ∀ i, 0 ≤ zs.getD i 0 ∧ zs.getD i 0 ≤ 255) : Row w v zs := by
 have hl : zs.length = n := by have := h.1; simpa [bys] using this
 obtain ⟨a, c, rfl, r, d⟩ := Reads.own h hbd
 subst hl
 refine ⟨a, c, rfl, r, ?_, ?_⟩
 · intro ha; subst ha
   rcases h.2 with ⟨h1, _⟩ | ⟨g, cap, cur, h1, _⟩
   · exact (Value.slice.inj h1).2.2
   · exact absurd (Value.slice.inj h1).1 (by simp)
 · rcases h.2 with ⟨_, h1⟩ | ⟨g, cap, cur, _, _, _, h1, h2, _⟩
   · rw [h1]; exact Nat.zero_le _
   · exact Nat.le_trans h1 h2
structure Bands (w : World) (lo hi : Nat) (xs : List Value) (ss : List (List Int)) : Prop where
 len : xs.length = ss.length
 own : ∀ i, w.ownsRow lo 5 1 (xs.getD i nilS) (ss.getD i []).length (bys (ss.getD i []))
 top : ∀ x ∈ xs, ∀ g, x.ownBlock = some g → g < hi
 apart : xs.Pairwise Apart
 bd : ∀ i j, 0 ≤ (ss.getD i []).getD j 0 ∧ (ss.getD i []).getD j 0 ≤ 255
theorem getD_mem_or {α : Type} (xs : List α) (i : Nat) (d : α) : xs.getD i d = d ∨ xs.getD i d ∈ xs := by
 by_cases h : i < xs.length
 · right
   rw [List.getD_eq_getElem?_getD, List.getElem?_eq_getElem h]
   exact List.getElem_mem h
 · left
   rw [List.getD_eq_getElem?_getD, List.getElem?_eq_none (by omega)]; rfl
theorem Bands.nil (w : World) (lo hi : Nat) : Bands w lo hi [] [] :=
 ⟨rfl, fun _ => World.ownsRow_nil _ _ _ _, fun x hx => (by cases hx), List.Pairwise.nil, fun i j => by simp⟩
theorem Bands.inr {w : World} {lo hi : Nat} {xs : List Value} {ss : List (List Int)} (h : Bands w lo hi xs ss) (i : Nat) : ∀ g, (xs.getD i nilS).ownBlock = some g → lo ≤ g ∧ g < hi := by
 intro g hg
 refine ⟨((h.own i).lt g hg).1, ?_⟩
 rcases getD_mem_or xs i nilS with e | e
 · rw [e] at hg; cases hg
 · exact h.top _ e g hg
theorem Bands.agree {w w' : World} {lo hi : Nat} {xs : List Value} {ss : List (List Int)} (h : Bands w lo hi xs ss) (ha : Agree lo hi w w') : Bands w' lo hi xs ss :=
 ⟨h.len, fun i => owns_agree (h.own i) ha (h.inr i), h.top, h.apart, h.bd⟩
theorem Bands.mono {w : World} {lo hi lo' hi' : Nat} {xs : List Value} {ss : List (List Int)} (h : Bands w lo hi xs ss) (hl : lo' ≤ lo) (hh : hi ≤ hi') : Bands w lo' hi' xs ss :=
 ⟨h.len, fun i => owns_lower (h.own i) hl, fun x hx g hg => Nat.lt_of_lt_of_le (h.top x hx g hg) hh, h.apart, h.bd⟩
theorem Bands.row {w : World} {lo hi : Nat} {xs : List Value} {ss : List (List Int)} (h : Bands w lo hi xs ss) (i : Nat) : Row w (xs.getD i nilS) (ss.getD i []) := Row.own (h.own i) (h.bd i)
theorem getD_app {α : Type} (xs ys : List α) (i : Nat) (d : α) : (xs ++ ys).getD i d = if i < xs.length then xs.getD i d else ys.getD (i - xs.length) d := by
 simp only [List.getD_eq_getElem?_getD, List.getElem?_append]
 split <;> rfl
theorem getD_set' {α : Type} (xs : List α) (i j : Nat) (v d : α) (hi : i < xs.length) : (xs.set i v).getD j d = if j = i then v else xs.getD j d := by
 simp only [List.getD_eq_getElem?_getD, List.getElem?_set]
 by_cases h : i = j
 · subst h; simp [hi]
 · rw [if_neg h, if_neg (fun e => h e.symm)]
theorem Bands.append {w : World} {lo mid hi : Nat} {xs ys : List Value} {ss ts : List (List Int)} (h : Bands w lo mid xs ss) (k : Bands w mid hi ys ts) (h1 : lo ≤ mid) (h2 : mid ≤ hi) : Bands w lo hi (xs ++ ys) (ss ++ ts) := by
 refine ⟨by rw [List.length_append, List.length_append, h.len, k.len], ?_, ?_, ?_, ?_⟩
 · intro i
   rw [getD_app, getD_app, ← h.len]
   split
   · exact h.own i
   · exact owns_lower (k.own _) h1
 · intro x hx g hg
   rcases List.mem_append.1 hx with hx | hx
   · exact Nat.lt_of_lt_of_le (h.top x hx g hg) h2
   · exact k.top x hx g hg
 · refine List.pairwise_append.2 ⟨h.apart, k.apart, fun a ha b hb => ?_⟩
   cases hA : a.ownBlock with
   | none => exact .inl hA
   | some g =>
    refine .inr (fun e => ?_)
    rw [hA] at e
    have h3 := h.top a ha g hA
    obtain ⟨i, hi, rfl⟩ := List.mem_iff_getElem.1 hb
    have := (k.inr i g (by rw [List.getD_eq_getElem?_getD, List.getElem?_eq_getElem hi]; exact e.symm)).1
    omega
 · intro i j
   rw [getD_app]
   split
   · exact h.bd i j
   · exact k.bd _ j
theorem Bands.one {w : World} {lo hi : Nat} {v : Value} {z : List Int} (h : w.ownsRow lo 5 1 v z.length (bys z)) (hb : ∀ j, 0 ≤ z.getD j 0 ∧ z.getD j 0 ≤ 255) (hh : w.heap.size ≤ hi) : Bands w lo hi [v] [z] := by
 refine ⟨rfl, ?_, ?_, List.pairwise_singleton _ _, ?_⟩
 · intro i
   cases i with
   | zero => exact h
   | succ i => simpa [bys, nilS] using World.ownsRow_nil w lo 5 1
 · intro x hx g hg
   obtain rfl := List.mem_singleton.1 hx
   exact Nat.lt_of_lt_of_le (h.lt g hg).2 hh
 · intro i j
   cases i with
   | zero => exact hb j
   | succ i => simp
theorem Bands.snoc {w : World} {lo mid hi : Nat} {xs : List Value} {ss : List (List Int)} {v : Value} {z : List Int} (h : Bands w lo mid xs ss) (h1 : lo ≤ mid) (h2 : mid ≤ hi) (o : w.ownsRow mid 5 1 v z.length (bys z)) (hb : ∀ j, 0 ≤ z.getD j 0 ∧ z.getD j 0 ≤ 255) (hh : w.heap.size ≤ hi) : Bands w lo hi (xs ++ [v]) (ss ++ [z]) :=
 h.append (Bands.one o hb hh) h1 h2
theorem Bands.put {w w' : World} {lo hi : Nat} {xs : List Value} {ss : List (List Int)} (h : Bands w lo hi xs ss) {i : Nat} (hi' : i < ss.length) {z : List Int}
 (hg : w.grownBy w' (xs.getD i nilS).ownBlock) (o : w'.ownsRow lo 5 1 (xs.getD i nilS) z.length (bys z)) (hb : ∀ j, 0 ≤ z.getD j 0 ∧ z.getD j 0 ≤ 255) : Bands w' lo hi xs (ss.set i z) := by
 refine ⟨by rw [List.length_set]; exact h.len, ?_, h.top, h.apart, ?_⟩
 · intro j
   rw [getD_set' ss i j z [] hi']
   split
   · rename_i e; subst e; exact o
   · rename_i e
     refine (h.own j).kept hg ?_
     by_cases hj : j < xs.length
     · have hl := h.len
       have hx : ∀ a b, a < b → b < xs.length → Apart (xs.getD a nilS) (xs.getD b nilS) := by
        intro a b hab hbl
        have := List.pairwise_iff_getElem.1 h.apart a b (by omega) hbl hab
        rw [List.getD_eq_getElem?_getD, List.getD_eq_getElem?_getD, List.getElem?_eq_getElem hbl, List.getElem?_eq_getElem (show a < xs.length by omega)]
        exact this
       by_cases hij : j < i
       · exact hx j i hij (by omega)
       · exact (hx i j (by omega) hj).symm
     · left
       rw [List.getD_eq_getElem?_getD, List.getElem?_eq_none (by omega)]; rfl
 · intro j q
   rw [getD_set' ss i j z [] hi']
   split
   · exact hb q
   · exact h.bd j q
theorem Bands.beside {w w' : World} {lo hi : Nat} {xs : List Value} {ss : List (List Int)} (h : Bands w lo hi xs ss) {row : Option Nat} (hg : w.grownBy w' row) (hne : ∀ i, (xs.getD i nilS).ownBlock = none ∨ (xs.getD i nilS).ownBlock ≠ row) : Bands w' lo hi xs ss :=
 ⟨h.len, fun i => (h.own i).kept hg (hne i), h.top, h.apart, h.bd⟩
end Go.Proofs.YtlkoghdajpbffaaGreat
/- Rows told apart by their type. No statement of its own; no conditions. -/

namespace Go.Proofs.YtlkoghdajpbffaaGreat
open Go.RowKit
end Go.Proofs.YtlkoghdajpbffaaGreat
/- A slice of byte slices, read; the contract of the program's joined. Conditions: lists of at most 2^21 bytes together. -/



namespace Go.Proofs.YtlkoghdajpbffaaGreat
open Go.RowKit
set_option maxRecDepth 100000
end Go.Proofs.YtlkoghdajpbffaaGreat
/- The contracts of the laws' helpers over slices of byte slices: toByteSS, eqByteSS, szByteS, szByteSS, markByteSS, heldByteSS; such a slice that came in, read. Conditions: lists of at most 2^21 bytes together where memory is made or counted. -/







namespace Go.Proofs.YtlkoghdajpbffaaGreat
open Go.RowKit Go.ChangeShapes Go.WideShapes Go.Deep
set_option maxRecDepth 100000
theorem take_snoc {α : Type} (xs : List α) (k : Nat) (d : α) (h : k < xs.length) : xs.take (k + 1) = xs.take k ++ [xs.getD k d] := by
 rw [List.take_add_one, List.getElem?_eq_getElem h, Option.toList_some]
 simp [List.getD, h]
section
variable {H : Type} {enc : TypeId × Value → H} {w : World} {base : Nat} {held : Bool}
end
end Go.Proofs.YtlkoghdajpbffaaGreat
/- A page in a block of its own, and what it leads to; a page whose memory is the call's own. No statement of its own; no conditions. -/

namespace Go.Proofs.YtlkoghdajpbffaaGreat
open Go.RowKit
section
variable {w w' : World} {g lo : Nat} {L : Int} {a : Option Addr} {n c : Nat} {ss ss' : List (List Int)}
end
section
variable {w w' : World} {lo hi g : Nat} {v : Value} {L : Int} {a : Option Addr} {n c : Nat} {ss ss' : List (List Int)}
end
end Go.Proofs.YtlkoghdajpbffaaGreat
/- The contracts of the laws' toPage, szPage, eqPage, markPage, heldPage; a page that came in, read. Conditions: lists of at most 2^21 bytes together where memory is made or counted. -/

namespace Go.Proofs.YtlkoghdajpbffaaGreat
open Go.RowKit
set_option maxRecDepth 100000
theorem heap_set_ne (w : World) (g o k : Nat) (u : Value) (h : k ≠ g) : (w.setCell ⟨g, o, none⟩ u).heap[k]? = w.heap[k]? := heap_setCell_other w ⟨g, o, none⟩ k u (by simpa using h)
theorem set_size (w : World) (a : Addr) (u : Value) : (w.setCell a u).heap.size = w.heap.size := by simp
section
variable {H : Type} {enc : TypeId × Value → H} {w : World} {base : Nat} {held : Bool}
end
end Go.Proofs.YtlkoghdajpbffaaGreat
/- A region that draws its order, one of whose operations (number L, a store) waits for all that read: a condition on the world that is shown behind every operation but that one. No statement of its own; no conditions. -/


namespace Go.Proofs.YtlkoghdajpbffaaGreat
open Go
def waitsFor (md : Region.Mode) (ops : Array Oper) (L i : Nat) : Bool :=
 match ops[L]? with
 | some o => o.after.any fun e => Region.binds md e && e.on == i
 | none => false
section
variable {P : Program} {ops : Array Oper} {Q : Exit → Act → World → Prop} {md : Region.Mode} {S : World → Prop} {L : Nat}
def anyK (P : Program) (md : Region.Mode) (ops : Array Oper) (Q : Exit → Act → World → Prop) (S : World → Prop) (L : Nat) : Nat → Array Bool → Act → World → Prop
 | 0, listed, a, w => Region.ready md ops listed = [] ∧ Q .normal a w
 | n + 1, listed, a, w => (Region.ready md ops listed = [] → Q .normal a w) ∧
  ∀ i ∈ Region.ready md ops listed, wpOp P ops Q i (fun a' w' => (i = L ∨ S w') ∧ anyK P md ops Q S L n (listed.setIfInBounds i true) a' w') a w
theorem anyK_any : ∀ (n : Nat) (listed : Array Bool) (a : Act) (w : World), anyK P md ops Q S L n listed a w → wpAny P md ops Q n listed a w
 | 0, _, _, _, h => h
 | n + 1, _, _, _, h => ⟨h.1, fun i hi => wpOp_mono (fun a' w' k => anyK_any n _ a' w' k.2) (h.2 i hi)⟩
theorem anyK_first {i : Nat} {oi : Oper} {v : Value} (hi : ops[i]? = some oi) (hsel : ∀ (j : Nat) (o : Oper) cs b, ops[j]? = some o → o.op ≠ .select cs b)
 (hQ : ∀ c a w, Q (.panic c) (a.put oi.dst v) w → Q (.panic c) a w) (hL : waitsFor md ops L i = true) (n : Nat) : ∀ (listed : Array Bool) (a : Act) (w : World),
  (∀ j oj, ops[j]? = some oj → j ≠ i → listed.getD j true = false → (∀ e ∈ oj.after, Region.binds md e = true → e.on ≠ i) → oi.apart ops oj = true) →
  i ∈ Region.ready md ops listed → YieldsIf P ops S oi v a → S w →
  anyK P md ops Q S L n (listed.setIfInBounds i true) (a.put oi.dst v) w → anyK P md ops Q S L (n + 1) listed a w := by
 induction n with
 | zero =>
  intro listed a w _ hr hy hS H
  refine ⟨fun e => absurd hr (by rw [e]; simp), fun j hj => ?_⟩
  rcases Nat.decEq j i with hne | heq
  · have hm := ready_mono hj hne
    rw [H.1] at hm
    cases hm
  · subst heq
    exact hy.wpOp hi hS ⟨.inr hS, H⟩
 | succ n ih =>
  intro listed a w hfree hr hy hS H
  refine ⟨fun e => absurd hr (by rw [e]; simp), fun j hj => ?_⟩
  rcases Nat.decEq j i with hne | heq
  · obtain ⟨hju, oj, hoj, hall⟩ := mem_ready.1 hj
    have hunl := (mem_ready.1 hr).1
    have hno : ∀ e ∈ oj.after, Region.binds md e = true → e.on ≠ i := by
     intro e he hb heq
     have h1 := hall e he hb
     rw [heq] at h1
     by_cases hsz : i < listed.size
     · simp [hsz] at hunl h1
       rw [hunl] at h1
       cases h1
     · simp [Array.getElem?_eq_none (Nat.le_of_not_lt hsz)] at h1
    have hjL : j ≠ L := by
     intro e
     subst e
     simp only [waitsFor, hoj] at hL
     obtain ⟨e, he, hb⟩ := Array.any_eq_true'.1 hL
     simp only [Bool.and_eq_true, beq_iff_eq] at hb
     exact hno e he hb.1 hb.2
    have step := wpOp_putIf hoj (hfree j oj hoj hne hju hno) (fun cs b => hsel i oi cs b hi) (fun cs b => hsel j oj cs b hoj) hQ hy (H.2 j (ready_mono hj hne))
    refine wpOp_mono (fun a' w' k => ?_) step
    obtain ⟨k1, k2, k3⟩ := k
    rcases k2 with k2 | k2
    · exact absurd k2 hjL
    · refine ⟨.inr k2, ih (listed.setIfInBounds j true) a' w' ?_ (ready_mono hr (fun e => hne e.symm)) k1 k2 ?_⟩
      · intro q oq hq hqi hun hnq
        refine hfree q oq hq hqi ?_ hnq
        by_cases hjq : j = q
        · subst hjq; exact hju
        · rw [getD_set_ne true hjq] at hun; exact hun
      · rw [Array.setIfInBounds_comm _ _ hne]
        exact k3
  · subst heq
    exact hy.wpOp hi hS ⟨.inr hS, H⟩
theorem anyK_take {i : Nat} {oi : Oper} {v : Value} {n : Nat} {listed : Array Bool} {a : Act} {w : World} (hi : ops[i]? = some oi) (hs : Region.noSelect ops = true) (hf : Region.free md ops listed i = true) (hr : (Region.ready md ops listed).contains i = true) (hL : waitsFor md ops L i = true)
 (hQ : ∀ c a w, Q (.panic c) (a.put oi.dst v) w → Q (.panic c) a w) (hw : Region.wanted oi (yielded ops a.tmps) = true) (hS : S w) (hy : ∀ w, S w → (execOp a.eval oi).run P w = .ok (.value v) w) (d : Option Tmp) (hd : oi.dst = d)
 (h : anyK P md ops Q S L n (listed.setIfInBounds i true) (a.put d v) w) : anyK P md ops Q S L (n + 1) listed a w :=
 anyK_first hi (Region.noSelect_spec hs) hQ hL n listed a w (Region.free_spec hi hf) (by simpa using hr) (.inl ⟨hw, hy⟩) hS (by rw [hd]; exact h)
theorem anyK_step {i : Nat} {o : Oper} {n : Nat} {listed : Array Bool} {a : Act} {w : World} (hr : Region.ready md ops listed = [i]) (ho : ops[i]? = some o)
 (h : ∀ K : Act → World → Prop, Shut (∀ a w, S w → (S w → anyK P md ops Q S L n (listed.setIfInBounds i true) a w) → K a w) → if Region.wanted o (yielded ops a.tmps) = true then Oper.wp P o a w K Q else K (a.put o.dst undef) w) : anyK P md ops Q S L (n + 1) listed a w := by
 refine ⟨fun e => absurd e (by rw [hr]; simp), fun j hj => ?_⟩
 rw [hr] at hj
 obtain rfl := List.mem_singleton.1 hj
 exact wpOp_step ho (fun K hK => h K (fun a w hS hW => hK a w ⟨.inr hS, hW hS⟩))
theorem anyK_last {o : Oper} {n : Nat} {listed : Array Bool} {a : Act} {w : World} (hr : Region.ready md ops listed = [L]) (ho : ops[L]? = some o)
 (h : ∀ K : Act → World → Prop, Shut (∀ a w, anyK P md ops Q S L n (listed.setIfInBounds L true) a w → K a w) → if Region.wanted o (yielded ops a.tmps) = true then Oper.wp P o a w K Q else K (a.put o.dst undef) w) : anyK P md ops Q S L (n + 1) listed a w := by
 refine ⟨fun e => absurd e (by rw [hr]; simp), fun j hj => ?_⟩
 rw [hr] at hj
 obtain rfl := List.mem_singleton.1 hj
 exact wpOp_step ho (fun K hK => h K (fun a w hW => hK a w ⟨.inl rfl, hW⟩))
theorem anyK_done {listed : Array Bool} {a : Act} {w : World} (hr : Region.ready md ops listed = []) (h : Q .normal a w) : ∀ n, anyK P md ops Q S L n listed a w
 | 0 => ⟨hr, h⟩
 | _ + 1 => ⟨fun _ => h, by rw [hr]; simp⟩
theorem region_K {id : Nat} {a : Act} {w : World} (L : Nat) (S : World → Prop) (hm : P.follows .mixedOrders = true) (hS : S w.drew)
 (h : S w.drew → anyK P .any ops Q S L ops.size (Array.replicate ops.size false) a w.drew) : (Code.region id ops true).wp P Q a w :=
 wp_region_any hm (anyK_any _ _ _ _ (h hS))
end
section
variable {P : Program} {ops : Array Oper} {Q : Exit → Act → World → Prop} {md : Region.Mode} {S : World → Prop} {L : Nat}
theorem qS (i : Nat) {o : Oper} {n : Nat} {listed : Array Bool} {a : Act} {w : World} (ho : ops[i]? = some o)
 (h : ∀ K : Act → World → Prop, Shut (∀ a w, S w → (S w → anyK P md ops Q S L n (listed.setIfInBounds i true) a w) → K a w) → if Region.wanted o (yielded ops a.tmps) = true then Oper.wp P o a w K Q else K (a.put o.dst undef) w) (hr : Region.ready md ops listed = [i] := by kernel_rfl) : anyK P md ops Q S L (n + 1) listed a w := anyK_step hr ho h
theorem qA (i : Nat) {oi : Oper} {v : Value} {n : Nat} {listed : Array Bool} {a a' : Act} {w : World} (hi : ops[i]? = some oi) (hS : S w) (d : Nat) (hd : oi.dst = some d)
 (h : anyK P md ops Q S L n (listed.setIfInBounds i true) a' w) (hy : ∀ w, S w → (execOp a.eval oi).run P w = .ok (.value v) w := by intro W x; go_simp; try with_reducible rfl) (ha : a.put (some d) v = a' := by simp only [qP]; try rfl) (hs : Region.noSelect ops = true := by kernel_rfl) (hf : Region.free md ops listed i = true := by kernel_rfl) (hr : (Region.ready md ops listed).contains i = true := by kernel_rfl) (hL : waitsFor md ops L i = true := by kernel_rfl)
 (hQ : ∀ c a w, Q (.panic c) (a.put oi.dst v) w → Q (.panic c) a w := by exact fun _ _ _ h => h) (hw : Region.wanted oi (yielded ops a.tmps) = true := by rfl) : anyK P md ops Q S L (n + 1) listed a w := anyK_take hi hs hf hr hL hQ hw hS hy (some d) hd (ha ▸ h)
end
end Go.Proofs.YtlkoghdajpbffaaGreat
/- A region that draws its order and writes nothing: what reads is taken first. No statement of its own; no conditions. -/

namespace Go.Proofs.YtlkoghdajpbffaaGreat
open Go
section
variable {P : Program} {ops : Array Oper} {Q : Exit → Act → World → Prop} {md : Region.Mode} {S : World → Prop} {L : Nat}
theorem anyK_first2 {i : Nat} {oi : Oper} {v : Value} (hi : ops[i]? = some oi) (hsel : ∀ (j : Nat) (o : Oper) cs b, ops[j]? = some o → o.op ≠ .select cs b)
 (hQ : ∀ c a w, Q (.panic c) (a.put oi.dst v) w → Q (.panic c) a w) (hL : ops[L]? = none) (n : Nat) : ∀ (listed : Array Bool) (a : Act) (w : World),
  (∀ j oj, ops[j]? = some oj → j ≠ i → listed.getD j true = false → (∀ e ∈ oj.after, Region.binds md e = true → e.on ≠ i) → oi.apart ops oj = true) →
  i ∈ Region.ready md ops listed → YieldsIf P ops S oi v a → S w →
  anyK P md ops Q S L n (listed.setIfInBounds i true) (a.put oi.dst v) w → anyK P md ops Q S L (n + 1) listed a w := by
 induction n with
 | zero =>
  intro listed a w _ hr hy hS H
  refine ⟨fun e => absurd hr (by rw [e]; simp), fun j hj => ?_⟩
  rcases Nat.decEq j i with hne | heq
  · have hm := ready_mono hj hne
    rw [H.1] at hm
    cases hm
  · subst heq
    exact hy.wpOp hi hS ⟨.inr hS, H⟩
 | succ n ih =>
  intro listed a w hfree hr hy hS H
  refine ⟨fun e => absurd hr (by rw [e]; simp), fun j hj => ?_⟩
  rcases Nat.decEq j i with hne | heq
  · obtain ⟨hju, oj, hoj, hall⟩ := mem_ready.1 hj
    have hunl := (mem_ready.1 hr).1
    have hno : ∀ e ∈ oj.after, Region.binds md e = true → e.on ≠ i := by
     intro e he hb heq
     have h1 := hall e he hb
     rw [heq] at h1
     by_cases hsz : i < listed.size
     · simp [hsz] at hunl h1
       rw [hunl] at h1
       cases h1
     · simp [Array.getElem?_eq_none (Nat.le_of_not_lt hsz)] at h1
    have hjL : j ≠ L := by
     intro e
     subst e
     rw [hL] at hoj
     cases hoj
    have step := wpOp_putIf hoj (hfree j oj hoj hne hju hno) (fun cs b => hsel i oi cs b hi) (fun cs b => hsel j oj cs b hoj) hQ hy (H.2 j (ready_mono hj hne))
    refine wpOp_mono (fun a' w' k => ?_) step
    obtain ⟨k1, k2, k3⟩ := k
    rcases k2 with k2 | k2
    · exact absurd k2 hjL
    · refine ⟨.inr k2, ih (listed.setIfInBounds j true) a' w' ?_ (ready_mono hr (fun e => hne e.symm)) k1 k2 ?_⟩
      · intro q oq hq hqi hun hnq
        refine hfree q oq hq hqi ?_ hnq
        by_cases hjq : j = q
        · subst hjq; exact hju
        · rw [getD_set_ne true hjq] at hun; exact hun
      · rw [Array.setIfInBounds_comm _ _ hne]
        exact k3
  · subst heq
    exact hy.wpOp hi hS ⟨.inr hS, H⟩
theorem anyK_take2 {i : Nat} {oi : Oper} {v : Value} {n : Nat} {listed : Array Bool} {a : Act} {w : World} (hi : ops[i]? = some oi) (hs : Region.noSelect ops = true) (hf : Region.free md ops listed i = true) (hr : (Region.ready md ops listed).contains i = true) (hL : ops[L]? = none)
 (hQ : ∀ c a w, Q (.panic c) (a.put oi.dst v) w → Q (.panic c) a w) (hw : Region.wanted oi (yielded ops a.tmps) = true) (hS : S w) (hy : ∀ w, S w → (execOp a.eval oi).run P w = .ok (.value v) w) (d : Option Tmp) (hd : oi.dst = d)
 (h : anyK P md ops Q S L n (listed.setIfInBounds i true) (a.put d v) w) : anyK P md ops Q S L (n + 1) listed a w :=
 anyK_first2 hi (Region.noSelect_spec hs) hQ hL n listed a w (Region.free_spec hi hf) (by simpa using hr) (.inl ⟨hw, hy⟩) hS (by rw [hd]; exact h)
end
theorem anyK_two {P : Program} {ops : Array Oper} {Q : Exit → Act → World → Prop} {md : Region.Mode} {S : World → Prop} {L i j : Nat} {oi oj : Oper} {n : Nat} {listed : Array Bool} {a : Act} {w : World} (hr : Region.ready md ops listed = [i, j]) (hoi : ops[i]? = some oi) (hoj : ops[j]? = some oj)
 (hi : ∀ K : Act → World → Prop, Shut (∀ a w, S w → (S w → anyK P md ops Q S L n (listed.setIfInBounds i true) a w) → K a w) → if Region.wanted oi (yielded ops a.tmps) = true then Oper.wp P oi a w K Q else K (a.put oi.dst undef) w)
 (hj : ∀ K : Act → World → Prop, Shut (∀ a w, S w → (S w → anyK P md ops Q S L n (listed.setIfInBounds j true) a w) → K a w) → if Region.wanted oj (yielded ops a.tmps) = true then Oper.wp P oj a w K Q else K (a.put oj.dst undef) w) : anyK P md ops Q S L (n + 1) listed a w := by
 refine ⟨fun e => absurd e (by rw [hr]; simp), fun q hq => ?_⟩
 rw [hr] at hq
 rcases List.mem_cons.1 hq with rfl | hq
 · exact wpOp_step hoi (fun K hK => hi K (fun a w hS hW => hK a w ⟨.inr hS, hW hS⟩))
 · obtain rfl := List.mem_singleton.1 hq
   exact wpOp_step hoj (fun K hK => hj K (fun a w hS hW => hK a w ⟨.inr hS, hW hS⟩))
section
variable {P : Program} {ops : Array Oper} {Q : Exit → Act → World → Prop} {md : Region.Mode} {S : World → Prop} {L : Nat}
theorem qT (i : Nat) {oi : Oper} {v : Value} {n : Nat} {listed : Array Bool} {a a' : Act} {w : World} (hi : ops[i]? = some oi) (hS : S w) (d : Nat) (hd : oi.dst = some d)
 (h : anyK P md ops Q S L n (listed.setIfInBounds i true) a' w) (hy : ∀ w, S w → (execOp a.eval oi).run P w = .ok (.value v) w := by intro W x; go_simp; try with_reducible rfl) (ha : a.put (some d) v = a' := by simp only [qP]; try rfl) (hs : Region.noSelect ops = true := by kernel_rfl) (hf : Region.free md ops listed i = true := by kernel_rfl) (hr : (Region.ready md ops listed).contains i = true := by kernel_rfl) (hL : ops[L]? = none := by rfl)
 (hQ : ∀ c a w, Q (.panic c) (a.put oi.dst v) w → Q (.panic c) a w := by exact fun _ _ _ h => h) (hw : Region.wanted oi (yielded ops a.tmps) = true := by rfl) : anyK P md ops Q S L (n + 1) listed a w := anyK_take2 hi hs hf hr hL hQ hw hS hy (some d) hd (ha ▸ h)
end
end Go.Proofs.YtlkoghdajpbffaaGreat
/- A region that draws its order: what stands may become more on the way; what is not wanted is passed by. No statement of its own; no conditions. -/

namespace Go.Proofs.YtlkoghdajpbffaaGreat
open Go
section
variable {P : Program} {ops : Array Oper} {Q : Exit → Act → World → Prop} {md : Region.Mode} {S S' : World → Prop} {L : Nat}
theorem anyK_skip {i : Nat} {oi : Oper} {n : Nat} {listed : Array Bool} {a : Act} {w : World} (hi : ops[i]? = some oi) (hs : Region.noSelect ops = true) (hf : Region.free md ops listed i = true) (hr : (Region.ready md ops listed).contains i = true) (hL : ops[L]? = none)
 (hQ : ∀ c a w, Q (.panic c) (a.put oi.dst undef) w → Q (.panic c) a w) (hw : Region.wanted oi (yielded ops a.tmps) = false) (hS : S w) (d : Option Tmp) (hd : oi.dst = d)
 (h : anyK P md ops Q S L n (listed.setIfInBounds i true) (a.put d undef) w) : anyK P md ops Q S L (n + 1) listed a w :=
 anyK_first2 hi (Region.noSelect_spec hs) hQ hL n listed a w (Region.free_spec hi hf) (by simpa using hr) (.inr ⟨hw, rfl⟩) hS (by rw [hd]; exact h)
end
section
variable {P : Program} {ops : Array Oper} {Q : Exit → Act → World → Prop} {md : Region.Mode} {S : World → Prop} {L : Nat}
theorem qK (i : Nat) {oi : Oper} {n : Nat} {listed : Array Bool} {a a' : Act} {w : World} (hi : ops[i]? = some oi) (hS : S w) (d : Nat) (hd : oi.dst = some d)
 (h : anyK P md ops Q S L n (listed.setIfInBounds i true) a' w) (ha : a.put (some d) undef = a' := by simp only [qP]; try rfl) (hs : Region.noSelect ops = true := by kernel_rfl) (hf : Region.free md ops listed i = true := by kernel_rfl) (hr : (Region.ready md ops listed).contains i = true := by kernel_rfl) (hL : ops[L]? = none := by kernel_rfl)
 (hQ : ∀ c a w, Q (.panic c) (a.put oi.dst undef) w → Q (.panic c) a w := by exact fun _ _ _ h => h) (hw : Region.wanted oi (yielded ops a.tmps) = false := by rfl) : anyK P md ops Q S L (n + 1) listed a w := anyK_skip hi hs hf hr hL hQ hw hS (some d) hd (ha ▸ h)
end
end Go.Proofs.YtlkoghdajpbffaaGreat
/- An append of whatever row to a row of the call's own, at a step of a region that draws and at a plain one; rows of rows that grow. No statement of its own; no conditions. -/




namespace Go.Proofs.YtlkoghdajpbffaaGreat
open Go.RowKit
theorem own_sl {w : World} {base n : Nat} {e : TypeId} {s : Nat} {v : Value} {xs : List Value} (h : w.ownsRow base e s v n xs) : ∃ a c, v = .slice a n c := by
 rcases h.2 with ⟨rfl, rfl⟩ | ⟨g, cap, cur, rfl, _⟩
 · exact ⟨none, 0, rfl⟩
 · exact ⟨_, cap, rfl⟩
section
variable {P : Program} {w : World}
theorem run_append_row (t ty : TypeId) (base : Nat) (e : TypeId) (i : TypeInfo) (z : Value) (size bytes : Nat) (ht : P.underlying t = some (.slice e)) (hi : P.info? e = some i) (hz : i.zero = some z)
 (hsize : i.size = size) (hby : i.bytes = bytes) (hzs : z.cells.size = size) (hsz : 0 < size)
 (v : Value) (n : Nat) (xs : List Value) (hown : w.ownsRow base e size v n xs)
 (ad : Option Addr) (m c : Nat) (news : List Value) (hl : news.length = m * size) (hnews : (ad = none ∧ c = 0) ∨ ∃ p, ad = some p ∧ ∀ j u, news[j]? = some u → w.cell? (p.add j) = some u) (hnil : ad = none → m = 0) (h1 : ∀ u ∈ news, u.oneCell' = true)
 (h63 : n + m ≤ maxLen) (hbytes : (n + m) * bytes ≤ 140737488355328) (hbase : base ≤ w.heap.size) :
 ∃ a' cap w', (Builtin.append_ #[t, t] ty #[v, .slice ad m c]).run P w = .ok (.slice a' (n + m) cap) w' ∧
  w'.ownsRow base e size (.slice a' (n + m) cap) (n + m) (xs ++ news) ∧ w.grownBy w' v.ownBlock := by
 rcases hnews with ⟨rfl, rfl⟩ | ⟨p, rfl, hn⟩
 · obtain rfl := hnil rfl
   obtain rfl : news = [] := List.eq_nil_of_length_eq_zero (by omega)
   obtain ⟨a', c', rfl⟩ := own_sl hown
   exact ⟨a', c', w, run_append_owned_none (P := P) (w := w) base t ty e i size ht hi _ n xs hown, by simpa using hown, grown_refl _ _⟩
 · obtain ⟨v', w', hr, h2, h3, _, _⟩ := run_append_own_at (P := P) w base t ty e i z size bytes ht hi hz hsize hby hzs hsz v n xs hown p m c news hl hn h1 h63 hbytes hbase
   obtain ⟨a', c', rfl⟩ := own_sl h2
   exact ⟨a', c', w', hr, h2, h3⟩
theorem wp_append_row {o : Oper} {a : Act} {K : Act → World → Prop} {Q : Exit → Act → World → Prop} (s x : Operand) (t : TypeId)
 (ho : o.op = .call { callee := .builtin .append, args := #[s, x], argTypes := #[t, t] })
 (base : Nat) (e : TypeId) (i : TypeInfo) (z : Value) (size bytes : Nat) (ht : P.underlying t = some (.slice e)) (hi : P.info? e = some i) (hz : i.zero = some z)
 (hsize : i.size = size) (hby : i.bytes = bytes) (hzs : z.cells.size = size) (hsz : 0 < size)
 (v : Value) (n : Nat) (xs : List Value) (hs : a.eval s = v) (hown : w.ownsRow base e size v n xs)
 (ad : Option Addr) (m c : Nat) (news : List Value) (hx : a.eval x = .slice ad m c) (hl : news.length = m * size) (hnews : (ad = none ∧ c = 0) ∨ ∃ p, ad = some p ∧ ∀ j u, news[j]? = some u → w.cell? (p.add j) = some u) (hnil : ad = none → m = 0) (h1 : ∀ u ∈ news, u.oneCell' = true)
 (h63 : n + m ≤ maxLen) (hbytes : (n + m) * bytes ≤ 140737488355328) (hbase : base ≤ w.heap.size)
 (h : ∀ a' cap w', w'.ownsRow base e size (.slice a' (n + m) cap) (n + m) (xs ++ news) → w.grownBy w' v.ownBlock → K (a.put o.dst (.slice a' (n + m) cap)) w') : o.wp P a w K Q := by
 obtain ⟨a', cap, w', hr, h2, h3⟩ := run_append_row (P := P) (w := w) t o.type base e i z size bytes ht hi hz hsize hby hzs hsz v n xs hown ad m c news hl hnews hnil h1 h63 hbytes hbase
 unfold Oper.wp execOp
 simp only [ho, resolve, invoke, builtin, Sem.run_bind, Sem.run_pure, Result.andThen_ok, List.map_toArray, List.map_cons, List.map_nil, hs, hx, hr]
 exact h a' cap w' h2 h3
theorem wpList_append_row {ops : Array Oper} {rest : List Oper} {o : Oper} {a : Act} {Q : Exit → Act → World → Prop} (hgd : o.guard = none) (s x : Operand) (t : TypeId)
 (ho : o.op = .call { callee := .builtin .append, args := #[s, x], argTypes := #[t, t] })
 (base : Nat) (e : TypeId) (i : TypeInfo) (z : Value) (size bytes : Nat) (ht : P.underlying t = some (.slice e)) (hi : P.info? e = some i) (hz : i.zero = some z)
 (hsize : i.size = size) (hby : i.bytes = bytes) (hzs : z.cells.size = size) (hsz : 0 < size)
 (v : Value) (n : Nat) (xs : List Value) (hs : a.eval s = v) (hown : w.ownsRow base e size v n xs)
 (ad : Option Addr) (m c : Nat) (news : List Value) (hx : a.eval x = .slice ad m c) (hl : news.length = m * size) (hnews : (ad = none ∧ c = 0) ∨ ∃ p, ad = some p ∧ ∀ j u, news[j]? = some u → w.cell? (p.add j) = some u) (hnil : ad = none → m = 0) (h1 : ∀ u ∈ news, u.oneCell' = true)
 (h63 : n + m ≤ maxLen) (hbytes : (n + m) * bytes ≤ 140737488355328) (hbase : base ≤ w.heap.size)
 (h : ∀ a' cap w', w'.ownsRow base e size (.slice a' (n + m) cap) (n + m) (xs ++ news) → w.grownBy w' v.ownBlock → wpList P ops Q rest (a.put o.dst (.slice a' (n + m) cap)) w') : wpList P ops Q (o :: rest) a w :=
 wpList_plain hgd fun _ hK => wp_append_row s x t ho base e i z size bytes ht hi hz hsize hby hzs hsz v n xs hs hown ad m c news hx hl hnews hnil h1 h63 hbytes hbase fun a' cap w' h2 h3 => hK _ _ (h a' cap w' h2 h3)
theorem step_append_row {ops : Array Oper} {o : Oper} {a : Act} {K : Act → World → Prop} {Q : Exit → Act → World → Prop} {E : Prop} (hgd : o.guard = none) (s x : Operand) (t : TypeId)
 (ho : o.op = .call { callee := .builtin .append, args := #[s, x], argTypes := #[t, t] })
 (base : Nat) (e : TypeId) (i : TypeInfo) (z : Value) (size bytes : Nat) (ht : P.underlying t = some (.slice e)) (hi : P.info? e = some i) (hz : i.zero = some z)
 (hsize : i.size = size) (hby : i.bytes = bytes) (hzs : z.cells.size = size) (hsz : 0 < size)
 (v : Value) (n : Nat) (xs : List Value) (hs : a.eval s = v) (hown : w.ownsRow base e size v n xs)
 (ad : Option Addr) (m c : Nat) (news : List Value) (hx : a.eval x = .slice ad m c) (hl : news.length = m * size) (hnews : (ad = none ∧ c = 0) ∨ ∃ p, ad = some p ∧ ∀ j u, news[j]? = some u → w.cell? (p.add j) = some u) (hnil : ad = none → m = 0) (h1 : ∀ u ∈ news, u.oneCell' = true)
 (h63 : n + m ≤ maxLen) (hbytes : (n + m) * bytes ≤ 140737488355328) (hbase : base ≤ w.heap.size)
 (h : ∀ a' cap w', w'.ownsRow base e size (.slice a' (n + m) cap) (n + m) (xs ++ news) → w.grownBy w' v.ownBlock → K (a.put o.dst (.slice a' (n + m) cap)) w') :
 if Region.wanted o (yielded ops a.tmps) = true then Oper.wp P o a w K Q else E := by
 have hw : Region.wanted o (yielded ops a.tmps) = true := by simp [Region.wanted, hgd]
 rw [if_pos hw]
 exact wp_append_row s x t ho base e i z size bytes ht hi hz hsize hby hzs hsz v n xs hs hown ad m c news hx hl hnews hnil h1 h63 hbytes hbase h
end
end Go.Proofs.YtlkoghdajpbffaaGreat
