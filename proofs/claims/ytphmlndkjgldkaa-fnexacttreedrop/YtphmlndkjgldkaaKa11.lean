/- Entries of a tree, plain and in memory: read, and where their memory is the call's own. No statement of its own; no conditions. -/
import Derived.Test.YtphmlndkjgldkaaMga
namespace Go.Proofs.Ytphmlndkjgldkaa
open Go.RowKit
set_option maxRecDepth 100000
structure En where
 K : Int
 N : Int
 F : Nat
 Z : List Int
 id : Int
def en0 : En := ⟨0, 0, 0, [], 0⟩
def textsE (es : List En) : List (List Int) := es.map (·.Z)
theorem textsE_len (es : List En) : (textsE es).length = es.length := by simp [textsE]
theorem textsE_at (es : List En) (i : Nat) : (textsE es).getD i [] = (es.getD i en0).Z := by
 by_cases h : i < es.length
 · simp [textsE, List.getD, h]
 · rw [List.getD_eq_getElem?_getD, List.getD_eq_getElem?_getD, List.getElem?_eq_none (by rw [textsE_len]; omega), List.getElem?_eq_none (by omega)]; rfl
theorem textsE_app (a b : List En) : textsE (a ++ b) = textsE a ++ textsE b := by simp [textsE]
def cellsE1 (e : En) (x : Value) : List Value := [.int .i64 e.K, .int .i64 e.N, .float .f64 e.F, x, .int .i64 e.id]
def cellsE : List En → List Value → List Value
 | e :: es, x :: xs => cellsE1 e x ++ cellsE es xs
 | _, _ => []
theorem cellsE_nil (xs : List Value) : cellsE [] xs = [] := by unfold cellsE; rfl
theorem cellsE_cons (e : En) (es : List En) (x : Value) (xs : List Value) : cellsE (e :: es) (x :: xs) = cellsE1 e x ++ cellsE es xs := by rw [cellsE]
theorem cellsE_len : ∀ (es : List En) (xs : List Value), xs.length = es.length → (cellsE es xs).length = es.length * 5
 | [], [], _ => rfl
 | e :: es, x :: xs, h => by
  have := cellsE_len es xs (by simpa using h)
  simp only [cellsE, cellsE1, List.length_append, List.length_cons, List.length_nil, this]; omega
theorem cellsE_app : ∀ (es fs : List En) (xs ys : List Value), xs.length = es.length → cellsE (es ++ fs) (xs ++ ys) = cellsE es xs ++ cellsE fs ys
 | [], fs, [], ys, _ => rfl
 | e :: es, fs, x :: xs, ys, h => by
  have := cellsE_app es fs xs ys (by simpa using h)
  rw [List.cons_append, List.cons_append, cellsE_cons, cellsE_cons, this, List.append_assoc]
theorem cellsE_snoc (e : En) (x : Value) (es : List En) (xs : List Value) (h : xs.length = es.length) : cellsE (es ++ [e]) (xs ++ [x]) = cellsE es xs ++ cellsE1 e x := by
 rw [cellsE_app es [e] xs [x] h, cellsE_cons, cellsE_nil, List.append_nil]
theorem cellsE_at : ∀ (es : List En) (xs : List Value) (i j : Nat), xs.length = es.length → i < es.length → j < 5 → (cellsE es xs)[i * 5 + j]? = (cellsE1 (es.getD i en0) (xs.getD i nilS))[j]?
 | e :: es, x :: xs, 0, j, _, _, hj => by
  simp only [cellsE, Nat.zero_mul, Nat.zero_add]
  rw [List.getElem?_append_left (by simp [cellsE1]; omega)]
  rfl
 | e :: es, x :: xs, i + 1, j, h, hi, hj => by
  have := cellsE_at es xs i j (by simpa using h) (by simpa using hi) hj
  simp only [cellsE]
  rw [List.getElem?_append_right (by simp [cellsE1]; omega), show (i + 1) * 5 + j - (cellsE1 e x).length = i * 5 + j by simp [cellsE1]; omega, this]
  simp only [List.getD_cons_succ]
 | [], _, i, j, _, hi, _ => by cases hi
structure Box5 (w : World) (b o : Nat) (K N : Int) (f : Nat) (x : Value) (id : Int) : Prop where
 c0 : w.cell? ⟨b, o, none⟩ = some (.int .i64 K)
 c1 : w.cell? ⟨b, o + 1, none⟩ = some (.int .i64 N)
 c2 : w.cell? ⟨b, o + 2, none⟩ = some (.float .f64 f)
 c3 : w.cell? ⟨b, o + 3, none⟩ = some x
 c4 : w.cell? ⟨b, o + 4, none⟩ = some (.int .i64 id)
theorem Box5.lt {w : World} {b o : Nat} {K N : Int} {f : Nat} {x : Value} {id : Int} (q : Box5 w b o K N f x id) : b < w.heap.size := World.block_lt_of_cell? w _ q.c0
theorem Box5.agree {w w' : World} {b o : Nat} {K N : Int} {f : Nat} {x : Value} {id : Int} (q : Box5 w b o K N f x id) (e : w'.heap[b]? = w.heap[b]?) : Box5 w' b o K N f x id :=
 ⟨(World.cell?_of_block (w := w) (a := ⟨b, o, none⟩) e).trans q.c0, (World.cell?_of_block (w := w) (a := ⟨b, o + 1, none⟩) e).trans q.c1, (World.cell?_of_block (w := w) (a := ⟨b, o + 2, none⟩) e).trans q.c2, (World.cell?_of_block (w := w) (a := ⟨b, o + 3, none⟩) e).trans q.c3, (World.cell?_of_block (w := w) (a := ⟨b, o + 4, none⟩) e).trans q.c4⟩
theorem Box5.below {w w' : World} {b o : Nat} {K N : Int} {f : Nat} {x : Value} {id : Int} (q : Box5 w b o K N f x id) {B0 : Nat} (hb : Below B0 w w') (hB : w.heap.size ≤ B0) : Box5 w' b o K N f x id :=
 q.agree (hb.block b (Nat.lt_of_lt_of_le q.lt hB))
structure ReadsE (w : World) (ad : Option Addr) (es : List En) : Prop where
 cells : es.length = 0 ∨ ∃ b off, ad = some ⟨b, off, none⟩ ∧ ∀ i, i < es.length → ∃ x, Box5 w b (off + i * 5) (es.getD i en0).K (es.getD i en0).N (es.getD i en0).F x (es.getD i en0).id ∧ Row w x (es.getD i en0).Z ∧ (es.getD i en0).F < 18446744073709551616
theorem ReadsE.nil (w : World) (ad : Option Addr) : ReadsE w ad [] := ⟨.inl rfl⟩
theorem ReadsE.below {w w' : World} {ad : Option Addr} {es : List En} (h : ReadsE w ad es) {B : Nat} (hb : Below B w w') (hB : w.heap.size ≤ B) : ReadsE w' ad es := by
 refine ⟨?_⟩
 rcases h.cells with h0 | ⟨b, off, rfl, hc⟩
 · exact .inl h0
 · refine .inr ⟨b, off, rfl, fun i hi => ?_⟩
   obtain ⟨x, h1, h2, h3⟩ := hc i hi
   exact ⟨x, h1.below hb hB, h2.below hb hB, h3⟩
theorem ReadsE.at {w : World} {ad : Option Addr} {es : List En} (h : ReadsE w ad es) {k : Nat} (hk : k < es.length) : ∃ b off a c, ad = some ⟨b, off, none⟩ ∧ Box5 w b (off + k * 5) (es.getD k en0).K (es.getD k en0).N (es.getD k en0).F (.slice a (es.getD k en0).Z.length c) (es.getD k en0).id ∧ Reads w a (es.getD k en0).Z.length (es.getD k en0).Z ∧ (a = none → c = 0) ∧ (es.getD k en0).Z.length ≤ maxLen ∧ (es.getD k en0).F < 18446744073709551616 := by
 rcases h.cells with h0 | ⟨b, off, rfl, hc⟩
 · omega
 · obtain ⟨x, h1, ⟨a, c, rfl, h2, h3, h4⟩, h5⟩ := hc k hk
   exact ⟨b, off, a, c, rfl, h1, h2, h3, h4, h5⟩
structure OwnE (w : World) (lo hi : Nat) (v : Value) (es : List En) : Prop where
 own : ∃ xs : List Value, w.ownsRow lo 35 5 v es.length (cellsE es xs) ∧ Bands w lo hi xs (textsE es)
 top : ∀ g, v.ownBlock = some g → g < hi
 fl : ∀ i, (es.getD i en0).F < 18446744073709551616
section
variable {w w' : World} {lo hi : Nat} {v : Value} {es : List En}
theorem OwnE.nil (w : World) (lo hi : Nat) : OwnE w lo hi (.slice none 0 0) [] :=
 ⟨⟨[], World.ownsRow_nil _ _ _ _, Bands.nil _ _ _⟩, (fun g hg => by cases hg), fun i => by simp [en0]⟩
theorem OwnE.slice (h : OwnE w lo hi v es) : ∃ a c, v = .slice a es.length c := by
 obtain ⟨xs, o, _⟩ := h.own
 exact own_sl o
theorem OwnE.agree (h : OwnE w lo hi v es) (ha : Agree lo hi w w') : OwnE w' lo hi v es := by
 obtain ⟨xs, o, b⟩ := h.own
 exact ⟨⟨xs, owns_agree o ha (fun g hg => ⟨(o.lt g hg).1, h.top g hg⟩), b.agree ha⟩, h.top, h.fl⟩
theorem OwnE.below (h : OwnE w lo hi v es) {B : Nat} (hb : Below B w w') (hB : hi ≤ B) : OwnE w' lo hi v es := h.agree (Agree.below hb hB)
theorem OwnE.mono {lo' hi' : Nat} (h : OwnE w lo hi v es) (hl : lo' ≤ lo) (hh : hi ≤ hi') : OwnE w lo' hi' v es := by
 obtain ⟨xs, o, b⟩ := h.own
 exact ⟨⟨xs, owns_lower o hl, b.mono hl hh⟩, fun g hg => Nat.lt_of_lt_of_le (h.top g hg) hh, h.fl⟩
theorem OwnE.rd {a : Option Addr} {n c : Nat} (h : OwnE w lo hi (.slice a n c) es) : ReadsE w a es := by
 obtain ⟨xs, o, hB⟩ := h.own
 have hxl : xs.length = es.length := by rw [hB.len, textsE_len]
 rcases o.2 with ⟨e, h0⟩ | ⟨g, cap, cur, e, _⟩
 · cases e; exact ⟨.inl h0⟩
 · cases e
   refine ⟨.inr ⟨g, 0, rfl, fun i hi => ⟨xs.getD i nilS, ?_, ?_, h.fl i⟩⟩⟩
   · have hc := fun j (hj : j < 5) => (o.cellAt (i * 5 + j) (by omega)).trans (cellsE_at es xs i j hxl hi hj)
     rw [Nat.zero_add]
     exact ⟨hc 0 (by omega), hc 1 (by omega), hc 2 (by omega), hc 3 (by omega), hc 4 (by omega)⟩
   · have := hB.row i; rw [textsE_at] at this; exact this
theorem OwnE.aside (h : OwnE w lo hi v es) {b : Nat} {e : TypeId} {s n : Nat} {v' : Value} {xs : List Value} (o : w.ownsRow b e s v' n xs) (hE : (35 : TypeId) ≠ e) (h5 : (5 : TypeId) ≠ e) (hg : w.grownBy w' v'.ownBlock) : OwnE w' lo hi v es := by
 obtain ⟨ys, o1, hB⟩ := h.own
 exact ⟨⟨ys, o1.kept hg (owns_ne o1 o hE), hB.beside hg (fun i => owns_ne (hB.own i) o h5)⟩, h.top, h.fl⟩
theorem OwnE.push {mid n : Nat} {a : Option Addr} {c : Nat} {xs : List Value} (o : w.ownsRow lo 35 5 (.slice a n c) n (cellsE es xs)) (hn : es.length = n) (hB : Bands w lo mid xs (textsE es)) (hf : ∀ i, (es.getD i en0).F < 18446744073709551616) (hlm : lo ≤ mid) (hmw : mid ≤ w.heap.size) {e : En} {x : Value} (o1 : w.ownsRow mid 5 1 x e.Z.length (bys e.Z)) (h1 : ∀ j, 0 ≤ e.Z.getD j 0 ∧ e.Z.getD j 0 ≤ 255) (he : e.F < 18446744073709551616)
 (o' : w'.ownsRow lo 35 5 v (n + 1) (cellsE es xs ++ cellsE1 e x)) (g : w.grownBy w' (Value.slice a n c).ownBlock) : OwnE w' lo w'.heap.size v (es ++ [e]) := by
 have hxl : xs.length = es.length := by rw [hB.len, textsE_len]
 have B2 : Bands w lo w.heap.size (xs ++ [x]) (textsE es ++ [e.Z]) := hB.append (Bands.one o1 h1 (Nat.le_refl _)) hlm hmw
 have B3 := B2.beside g (fun i => owns_ne (B2.own i) o (by decide))
 refine ⟨⟨xs ++ [x], ?_, ?_⟩, fun g' hg' => (o'.lt g' hg').2, fun i => ?_⟩
 · rw [List.length_append, hn, cellsE_snoc _ _ _ _ hxl]; exact o'
 · rw [textsE_app]; exact B3.mono (Nat.le_refl _) g.size
 · rw [getD_app]
   split
   · exact hf i
   · rcases getD_mem_or [e] (i - es.length) en0 with h | h
     · rw [h]; simp [en0]
     · rw [List.mem_singleton.1 h]; exact he
end
end Go.Proofs.Ytphmlndkjgldkaa
