/- Lists of items, and of spans (two items each), plain and in memory: read, and where their memory is the call's own. No statement of its own; no conditions. -/
import Derived.Test.YtoppccfgcccijaaDoorMgb
import Derived.Test.YtoppccfgcccijaaDoorMga
import Derived.Test.YtoppccfgcccijaaDoorOty
import Derived.Test.YtoppccfgcccijaaDoorPs
namespace Go.Proofs.YtoppccfgcccijaaDoor
open Go.RowKit
set_option maxRecDepth 100000

structure Im where
  K : Int
  N : Int
  F : Nat
  Z : List Int
def im0 : Im := ⟨0, 0, 0, []⟩
def textsI (es : List Im) : List (List Int) := es.map (·.Z)
theorem textsI_len (es : List Im) : (textsI es).length = es.length := by simp [textsI]
theorem textsI_at (es : List Im) (i : Nat) : (textsI es).getD i [] = (es.getD i im0).Z := by
  by_cases h : i < es.length
  · simp [textsI, List.getD, h]
  · simp [textsI, List.getD, List.getElem?_eq_none (Nat.le_of_not_lt h), im0]
theorem textsI_app (a b : List Im) : textsI (a ++ b) = textsI a ++ textsI b := by simp [textsI]
/-- The cells of one item. -/
def cellsI1 (e : Im) (x : Value) : List Value := [.int .i64 e.K, .int .i64 e.N, .float .f64 e.F, x]
def cellsI : List Im → List Value → List Value
  | e :: es, x :: xs => cellsI1 e x ++ cellsI es xs
  | _, _ => []
theorem cellsI_nil (xs : List Value) : cellsI [] xs = [] := by unfold cellsI; rfl
theorem cellsI_cons (e : Im) (es : List Im) (x : Value) (xs : List Value) : cellsI (e :: es) (x :: xs) = cellsI1 e x ++ cellsI es xs := by rw [cellsI]
theorem cellsI_len : ∀ (es : List Im) (xs : List Value), xs.length = es.length → (cellsI es xs).length = es.length * 4
  | [], [], _ => rfl
  | e :: es, x :: xs, h => by
    rw [cellsI_cons, List.length_append, cellsI_len es xs (by simpa using h)]
    simp [cellsI1]; omega
theorem cellsI_app : ∀ (es fs : List Im) (xs ys : List Value), xs.length = es.length → cellsI (es ++ fs) (xs ++ ys) = cellsI es xs ++ cellsI fs ys
  | [], fs, [], ys, _ => rfl
  | e :: es, fs, x :: xs, ys, h => by
    rw [List.cons_append, List.cons_append, cellsI_cons, cellsI_app es fs xs ys (by simpa using h), cellsI_cons, List.append_assoc]
theorem cellsI_at : ∀ (es : List Im) (xs : List Value) (i j : Nat), xs.length = es.length → i < es.length → j < 4 → (cellsI es xs)[i * 4 + j]? = (cellsI1 (es.getD i im0) (xs.getD i nilS))[j]?
  | e :: es, x :: xs, 0, j, _, _, hj => by
    rw [cellsI_cons, Nat.zero_mul, Nat.zero_add, List.getElem?_append_left (by simp [cellsI1]; omega)]
    rfl
  | e :: es, x :: xs, i + 1, j, h, hi, hj => by
    have ih := cellsI_at es xs i j (by simpa using h) (by simpa using hi) hj
    rw [cellsI_cons, List.getElem?_append_right (by simp [cellsI1]; omega), List.getD_cons_succ, List.getD_cons_succ, ← ih]
    congr 1
    simp [cellsI1]; omega
/-- An item at a place of a block. -/
structure Box4 (w : World) (b o : Nat) (K N : Int) (f : Nat) (x : Value) : Prop where
  c0 : w.cell? ⟨b, o, none⟩ = some (.int .i64 K)
  c1 : w.cell? ⟨b, o + 1, none⟩ = some (.int .i64 N)
  c2 : w.cell? ⟨b, o + 2, none⟩ = some (.float .f64 f)
  c3 : w.cell? ⟨b, o + 3, none⟩ = some x
theorem Box4.lt {w : World} {b o : Nat} {K N : Int} {f : Nat} {x : Value} (q : Box4 w b o K N f x) : b < w.heap.size := World.block_lt_of_cell? w _ q.c0
theorem Box4.agree {w w' : World} {b o : Nat} {K N : Int} {f : Nat} {x : Value} (q : Box4 w b o K N f x) (e : w'.heap[b]? = w.heap[b]?) : Box4 w' b o K N f x :=
  ⟨(World.cell?_of_block (w := w) (a := ⟨b, o, none⟩) e).trans q.c0, (World.cell?_of_block (w := w) (a := ⟨b, o + 1, none⟩) e).trans q.c1, (World.cell?_of_block (w := w) (a := ⟨b, o + 2, none⟩) e).trans q.c2, (World.cell?_of_block (w := w) (a := ⟨b, o + 3, none⟩) e).trans q.c3⟩
theorem Box4.below {w w' : World} {b o : Nat} {K N : Int} {f : Nat} {x : Value} (q : Box4 w b o K N f x) {B0 : Nat} (hb : Below B0 w w') (hB : w.heap.size ≤ B0) : Box4 w' b o K N f x :=
  q.agree (hb.block b (Nat.lt_of_lt_of_le q.lt hB))

/-- A row of items, read. -/
structure ReadsM (w : World) (ad : Option Addr) (es : List Im) : Prop where
  cells : es.length = 0 ∨ ∃ b off, ad = some ⟨b, off, none⟩ ∧ ∀ i, i < es.length → ∃ x, Box4 w b (off + i * 4) (es.getD i im0).K (es.getD i im0).N (es.getD i im0).F x ∧ Row w x (es.getD i im0).Z ∧ (es.getD i im0).F < 18446744073709551616
theorem ReadsM.nil (w : World) (ad : Option Addr) : ReadsM w ad [] := ⟨.inl rfl⟩
theorem ReadsM.below {w w' : World} {ad : Option Addr} {es : List Im} (h : ReadsM w ad es) {B : Nat} (hb : Below B w w') (hB : w.heap.size ≤ B) : ReadsM w' ad es := by
  refine ⟨?_⟩
  rcases h.cells with h0 | ⟨b, off, rfl, hc⟩
  · exact .inl h0
  · refine .inr ⟨b, off, rfl, fun i hi => ?_⟩
    obtain ⟨x, h1, h2, h3⟩ := hc i hi
    exact ⟨x, h1.below hb hB, h2.below hb hB, h3⟩
theorem ReadsM.at {w : World} {ad : Option Addr} {es : List Im} (h : ReadsM w ad es) {k : Nat} (hk : k < es.length) : ∃ b off a c, ad = some ⟨b, off, none⟩ ∧ Box4 w b (off + k * 4) (es.getD k im0).K (es.getD k im0).N (es.getD k im0).F (.slice a (es.getD k im0).Z.length c) ∧ Reads w a (es.getD k im0).Z.length (es.getD k im0).Z ∧ (a = none → c = 0) ∧ (es.getD k im0).Z.length ≤ maxLen ∧ (es.getD k im0).F < 18446744073709551616 := by
  rcases h.cells with h0 | ⟨b, off, rfl, hc⟩
  · omega
  · obtain ⟨x, h1, ⟨a, c, rfl, h2, h3, h4⟩, h5⟩ := hc k hk
    exact ⟨b, off, a, c, rfl, h1, h2, h3, h4, h5⟩
theorem ReadsM.fl {w : World} {ad : Option Addr} {es : List Im} (h : ReadsM w ad es) (i : Nat) : (es.getD i im0).F < 18446744073709551616 := by
  by_cases hc : i < es.length
  · obtain ⟨_, _, _, _, _, _, _, _, _, hf⟩ := h.at (k := i) hc
    exact hf
  · rw [List.getD_eq_getElem?_getD, List.getElem?_eq_none (by omega)]; simp [im0]
/-- A slice of n elements of type t (s cells each) that are items one behind the other, whose memory, all of it, is the call's own, within lo .. hi. -/
structure OwnM (t : TypeId) (s : Nat) (w : World) (lo hi : Nat) (v : Value) (n : Nat) (es : List Im) : Prop where
  own : ∃ xs : List Value, w.ownsRow lo t s v n (cellsI es xs) ∧ Bands w lo hi xs (textsI es)
  top : ∀ g, v.ownBlock = some g → g < hi
  fl : ∀ i, (es.getD i im0).F < 18446744073709551616
  len : es.length * 4 = n * s
section
variable {t : TypeId} {s : Nat} {w w' : World} {lo hi : Nat} {v : Value} {n : Nat} {es : List Im}
theorem OwnM.nil (t : TypeId) (s : Nat) (w : World) (lo hi : Nat) : OwnM t s w lo hi (.slice none 0 0) 0 [] :=
  ⟨⟨[], World.ownsRow_nil _ _ _ _, Bands.nil _ _ _⟩, (fun g hg => by cases hg), (fun i => by simp [im0]), by simp⟩
theorem OwnM.slice (h : OwnM t s w lo hi v n es) : ∃ a c, v = .slice a n c := by
  obtain ⟨xs, o, _⟩ := h.own
  exact own_sl o
theorem OwnM.agree (h : OwnM t s w lo hi v n es) (ha : Agree lo hi w w') : OwnM t s w' lo hi v n es := by
  obtain ⟨xs, o, b⟩ := h.own
  exact ⟨⟨xs, owns_agree o ha (fun g hg => ⟨(o.lt g hg).1, h.top g hg⟩), b.agree ha⟩, h.top, h.fl, h.len⟩
theorem OwnM.below (h : OwnM t s w lo hi v n es) {B : Nat} (hb : Below B w w') (hB : hi ≤ B) : OwnM t s w' lo hi v n es := h.agree (Agree.below hb hB)
theorem OwnM.mono {lo' hi' : Nat} (h : OwnM t s w lo hi v n es) (hl : lo' ≤ lo) (hh : hi ≤ hi') : OwnM t s w lo' hi' v n es := by
  obtain ⟨xs, o, b⟩ := h.own
  exact ⟨⟨xs, owns_lower o hl, b.mono hl hh⟩, (fun g hg => Nat.lt_of_lt_of_le (h.top g hg) hh), h.fl, h.len⟩
theorem OwnM.rd {a : Option Addr} {n' c : Nat} (h : OwnM t s w lo hi (.slice a n' c) n es) : ReadsM w a es := by
  obtain ⟨xs, o, hB⟩ := h.own
  have hxl : xs.length = es.length := by rw [hB.len, textsI_len]
  have hl := h.len
  rcases o.2 with ⟨e, h0⟩ | ⟨g, cap, cur, e, _⟩
  · cases e
    subst h0
    exact ⟨.inl (by omega)⟩
  · cases e
    refine ⟨.inr ⟨g, 0, rfl, fun i hi => ⟨xs.getD i nilS, ?_, ?_, h.fl i⟩⟩⟩
    · have hc := fun j (hj : j < 4) => (o.cellAt (i * 4 + j) (by omega)).trans (cellsI_at es xs i j hxl hi hj)
      rw [Nat.zero_add]
      exact ⟨hc 0 (by omega), hc 1 (by omega), hc 2 (by omega), hc 3 (by omega)⟩
    · have := hB.row i; rw [textsI_at] at this; exact this
theorem OwnM.aside (h : OwnM t s w lo hi v n es) {b : Nat} {e : TypeId} {s' m : Nat} {v' : Value} {xs : List Value} (o : w.ownsRow b e s' v' m xs) (hE : t ≠ e) (h5 : (5 : TypeId) ≠ e) (hg : w.grownBy w' v'.ownBlock) : OwnM t s w' lo hi v n es := by
  obtain ⟨ys, o1, hB⟩ := h.own
  exact ⟨⟨ys, o1.kept hg (owns_ne o1 o hE), hB.beside hg (fun i => owns_ne (hB.own i) o h5)⟩, h.top, h.fl, h.len⟩
/-- One more element: its texts lie behind 'mid', it has been appended. -/
theorem OwnM.push {mid : Nat} {a : Option Addr} {c : Nat} {xs : List Value} (o : w.ownsRow lo t s (.slice a n c) n (cellsI es xs)) (hn : es.length * 4 = n * s) (hB : Bands w lo mid xs (textsI es)) (hf : ∀ i, (es.getD i im0).F < 18446744073709551616) (hlm : lo ≤ mid) (hmw : mid ≤ w.heap.size) (ht : (5 : TypeId) ≠ t) {fs : List Im} {ys : List Value} (o1 : Bands w mid w.heap.size ys (textsI fs)) (hs : fs.length * 4 = s) (he : ∀ i, (fs.getD i im0).F < 18446744073709551616)
    (o' : w'.ownsRow lo t s v (n + 1) (cellsI es xs ++ cellsI fs ys)) (g : w.grownBy w' (Value.slice a n c).ownBlock) : OwnM t s w' lo w'.heap.size v (n + 1) (es ++ fs) := by
  have hxl : xs.length = es.length := by rw [hB.len, textsI_len]
  have B2 : Bands w lo w.heap.size (xs ++ ys) (textsI es ++ textsI fs) := hB.append o1 hlm hmw
  have B3 := B2.beside g (fun i => owns_ne (B2.own i) o ht)
  refine ⟨⟨xs ++ ys, ?_, ?_⟩, (fun g' hg' => (o'.lt g' hg').2), (fun i => ?_), ?_⟩
  · rw [cellsI_app _ _ _ _ hxl]; exact o'
  · rw [textsI_app]; exact B3.mono (Nat.le_refl _) g.size
  · rw [getD_app]
    split
    · exact hf i
    · exact he _
  · rw [List.length_append, Nat.add_mul, hn, hs, Nat.add_mul, Nat.one_mul]
end
theorem Bands.one_top {w : World} {lo hi : Nat} {v : Value} {z : List Int} (h : w.ownsRow lo 5 1 v z.length (bys z)) (hb : ∀ j, 0 ≤ z.getD j 0 ∧ z.getD j 0 ≤ 255) (hh : ∀ g, v.ownBlock = some g → g < hi) : Bands w lo hi [v] [z] := by
  have B := Bands.one h hb (Nat.le_refl _)
  exact ⟨B.len, B.own, (fun x hx g hg => by obtain rfl := List.mem_singleton.1 hx; exact hh g hg), B.apart, B.bd⟩
/-- Spans as items one behind the other. -/
def fl2 : List (Im × Im) → List Im
  | [] => []
  | p :: ps => p.1 :: p.2 :: fl2 ps
theorem fl2_len : ∀ l : List (Im × Im), (fl2 l).length = l.length * 2
  | [] => rfl
  | p :: ps => by simp [fl2, fl2_len ps]; omega
theorem fl2_app : ∀ a b : List (Im × Im), fl2 (a ++ b) = fl2 a ++ fl2 b
  | [], b => rfl
  | p :: a, b => by simp [fl2, fl2_app a b]
def sp0 : Im × Im := (im0, im0)
theorem fl2_at : ∀ (l : List (Im × Im)) (i : Nat), (fl2 l).getD (i * 2) im0 = (l.getD i sp0).1 ∧ (fl2 l).getD (i * 2 + 1) im0 = (l.getD i sp0).2
  | [], i => by simp [fl2, sp0]
  | p :: l, 0 => by simp [fl2]
  | p :: l, i + 1 => by
    have ih := fl2_at l i
    rw [show (i + 1) * 2 = i * 2 + 1 + 1 by omega]
    simp only [fl2, List.getD_cons_succ]
    exact ih
theorem fl2_take : ∀ (l : List (Im × Im)) (k : Nat), fl2 (l.take k) = (fl2 l).take (k * 2)
  | [], k => by simp [fl2]
  | p :: l, 0 => by simp [fl2]
  | p :: l, k + 1 => by
    rw [show (k + 1) * 2 = k * 2 + 1 + 1 by omega]
    simp [fl2, fl2_take l k]
end Go.Proofs.YtoppccfgcccijaaDoor
