/- Tracks, plain and in memory: read, and where their memory is the call's own, told by its blocks. No statement of its own; no conditions. -/
import Derived.Test.YtoppccfgcccijaaDoorEc13
namespace Go.Proofs.YtoppccfgcccijaaDoor
open Go.RowKit
set_option maxRecDepth 100000

/-- All blocks that were there are as they were, but those of X. -/
structure Keeps (X : Nat → Prop) (w w' : World) : Prop where
  os : w'.os = w.os
  tape : w'.tape = w.tape
  output : w'.output = w.output
  size : w.heap.size ≤ w'.heap.size
  block : ∀ k, k < w.heap.size → ¬ X k → w'.heap[k]? = w.heap[k]?
theorem Keeps.refl (X : Nat → Prop) (w : World) : Keeps X w w := ⟨rfl, rfl, rfl, Nat.le_refl _, fun _ _ _ => rfl⟩
theorem Keeps.trans {X : Nat → Prop} {a b c : World} (h : Keeps X a b) (k : Keeps X b c) : Keeps X a c :=
  ⟨k.os.trans h.os, k.tape.trans h.tape, k.output.trans h.output, Nat.le_trans h.size k.size, fun i hi hx => (k.block i (Nat.lt_of_lt_of_le hi h.size) hx).trans (h.block i hi hx)⟩
theorem Keeps.mono {X Y : Nat → Prop} {w w' : World} (h : Keeps X w w') (hX : ∀ k, X k → Y k) : Keeps Y w w' := ⟨h.os, h.tape, h.output, h.size, fun k hk hy => h.block k hk (fun x => hy (hX k x))⟩
theorem Keeps.set {X : Nat → Prop} (w : World) {p : Addr} (hp : X p.block) (u : Value) : Keeps X w (w.setCell p u) :=
  ⟨rfl, rfl, rfl, by simp [World.setCell], fun k _ hx => Below.heap_setCell _ _ _ _ (fun e => hx (e ▸ hp))⟩
theorem Keeps.grown {X : Nat → Prop} {w w' : World} {row : Option Nat} (h : w.grownBy w' row) (hX : ∀ b, row = some b → X b) : Keeps X w w' := ⟨h.os, h.tape, h.output, h.size, fun k hk hx => h.block k hk (fun e => hx (hX k e.symm))⟩
theorem Keeps.within {X : Nat → Prop} {w w' : World} (h : Keeps X w w') {lo hi : Nat} (hX : ∀ k, X k → lo ≤ k ∧ k < hi) : Within lo hi w w' := ⟨h.os, h.tape, h.output, h.size, fun k hk ho => h.block k hk (fun x => by have := hX k x; omega)⟩
theorem Keeps.of_below {X : Nat → Prop} {w w' : World} (h : Below w.heap.size w w') : Keeps X w w' := ⟨h.os, h.tape, h.output, h.size, fun k hk _ => h.block k hk⟩
theorem owns_keep {X : Nat → Prop} {w w' : World} {base : Nat} {e : TypeId} {s n : Nat} {v : Value} {xs : List Value} (h : w.ownsRow base e s v n xs) (g : Keeps X w w') (hne : ∀ k, v.ownBlock = some k → ¬ X k) : w'.ownsRow base e s v n xs := by
  refine ⟨h.1, ?_⟩
  rcases h.2 with hn | ⟨x, cap, cur, rfl, hb, hg, rest⟩
  · exact .inl hn
  · refine .inr ⟨x, cap, cur, rfl, hb, ?_, rest⟩
    rw [g.block x (Array.getElem?_eq_some_iff.1 hg).1 (hne x (by simp [Value.ownBlock]))]
    exact hg
/-- A block of one of these slices. -/
def blkL (xs : List Value) (b : Nat) : Prop := ∃ x ∈ xs, x.ownBlock = some b
theorem blkL_at {xs : List Value} {i b : Nat} (h : (xs.getD i nilS).ownBlock = some b) : blkL xs b := by
  rcases getD_mem_or xs i nilS with e | e
  · rw [e] at h; cases h
  · exact ⟨_, e, h⟩
theorem Bands.keep {X : Nat → Prop} {w w' : World} {lo hi : Nat} {xs : List Value} {ss : List (List Int)} (h : Bands w lo hi xs ss) (g : Keeps X w w') (hne : ∀ k, blkL xs k → ¬ X k) : Bands w' lo hi xs ss :=
  ⟨h.len, (fun i => owns_keep (h.own i) g (fun k hk => hne k (blkL_at hk))), h.top, h.apart, h.bd⟩
/-- Elements of type t (s cells each) that are items one behind the other: row v, texts xs. -/
structure OwnX (t : TypeId) (s : Nat) (w : World) (lo hi : Nat) (v : Value) (n : Nat) (es : List Im) (xs : List Value) : Prop where
  row : w.ownsRow lo t s v n (cellsI es xs)
  txt : Bands w lo hi xs (textsI es)
  top : ∀ g, v.ownBlock = some g → g < hi
  fl : ∀ i, (es.getD i im0).F < 18446744073709551616
  len : es.length * 4 = n * s
def blkX (v : Value) (xs : List Value) (b : Nat) : Prop := v.ownBlock = some b ∨ blkL xs b
section
variable {t : TypeId} {s : Nat} {w w' : World} {lo hi : Nat} {v : Value} {n : Nat} {es : List Im} {xs : List Value}
theorem OwnM.x (h : OwnM t s w lo hi v n es) : ∃ xs, OwnX t s w lo hi v n es xs := by
  obtain ⟨xs, o, b⟩ := h.own
  exact ⟨xs, o, b, h.top, h.fl, h.len⟩
theorem OwnX.m (h : OwnX t s w lo hi v n es xs) : OwnM t s w lo hi v n es := ⟨⟨xs, h.row, h.txt⟩, h.top, h.fl, h.len⟩
theorem OwnX.rd {a : Option Addr} {n' c : Nat} (h : OwnX t s w lo hi (.slice a n' c) n es xs) : ReadsM w a es := h.m.rd
theorem OwnX.nil (t : TypeId) (s : Nat) (w : World) (lo hi : Nat) : OwnX t s w lo hi (.slice none 0 0) 0 [] [] :=
  ⟨World.ownsRow_nil _ _ _ _, Bands.nil _ _ _, (fun g hg => by cases hg), (fun i => by simp [im0]), by simp⟩
theorem OwnX.keep {X : Nat → Prop} (h : OwnX t s w lo hi v n es xs) (g : Keeps X w w') (hne : ∀ k, blkX v xs k → ¬ X k) : OwnX t s w' lo hi v n es xs :=
  ⟨owns_keep h.row g (fun k hk => hne k (.inl hk)), h.txt.keep g (fun k hk => hne k (.inr hk)), h.top, h.fl, h.len⟩
theorem OwnX.agree (h : OwnX t s w lo hi v n es xs) (ha : Agree lo hi w w') : OwnX t s w' lo hi v n es xs :=
  ⟨owns_agree h.row ha (fun g hg => ⟨(h.row.lt g hg).1, h.top g hg⟩), h.txt.agree ha, h.top, h.fl, h.len⟩
theorem OwnX.mono {lo' hi' : Nat} (h : OwnX t s w lo hi v n es xs) (hl : lo' ≤ lo) (hh : hi ≤ hi') : OwnX t s w lo' hi' v n es xs :=
  ⟨owns_lower h.row hl, h.txt.mono hl hh, (fun g hg => Nat.lt_of_lt_of_le (h.top g hg) hh), h.fl, h.len⟩
theorem OwnX.inr (h : OwnX t s w lo hi v n es xs) {b : Nat} (hb : blkX v xs b) : lo ≤ b ∧ b < hi := by
  rcases hb with hb | ⟨x, hx, hb⟩
  · exact ⟨(h.row.lt b hb).1, h.top b hb⟩
  · obtain ⟨i, hi', rfl⟩ := List.getElem_of_mem hx
    have := h.txt.inr i b (by simpa [List.getD, hi'] using hb)
    exact this
theorem OwnX.slice (h : OwnX t s w lo hi v n es xs) : ∃ a c, v = .slice a n c := own_sl h.row
theorem OwnX.max (h : OwnX t s w lo hi v n es xs) : n ≤ maxLen := by
  rcases h.row.2 with ⟨_, h1⟩ | ⟨g, cap, cur, _, _, _, h1, h2, _⟩
  · rw [h1]; exact Nat.zero_le _
  · exact Nat.le_trans h1 h2
end

structure Tk where
  xid : Int
  begun : Int
  ended : Int
  all : Bool
  rs : List (Im × Im)
  ws : List Im
  inn : Bool
  out : Bool
def tk0 : Tk := ⟨0, 0, 0, false, [], [], false, false⟩
/-- Where a track's memory lies: the row of its reads, their texts, the row of its writes, their texts. -/
structure Mt where
  y : Value
  X : List Value
  z : Value
  Y : List Value
def mt0 : Mt := ⟨nilS, [], nilS, []⟩
def cellsT1 (t : Tk) (m : Mt) : List Value := [.int .i64 t.xid, .int .i64 t.begun, .int .i64 t.ended, .bool t.all, m.y, m.z, .bool t.inn, .bool t.out]
def cellsT : List Tk → List Mt → List Value
  | t :: ts, m :: ms => cellsT1 t m ++ cellsT ts ms
  | _, _ => []
theorem cellsT_nil (ms : List Mt) : cellsT [] ms = [] := by unfold cellsT; rfl
theorem cellsT_cons (t : Tk) (ts : List Tk) (m : Mt) (ms : List Mt) : cellsT (t :: ts) (m :: ms) = cellsT1 t m ++ cellsT ts ms := by rw [cellsT]
theorem cellsT_len : ∀ (ts : List Tk) (ms : List Mt), ms.length = ts.length → (cellsT ts ms).length = ts.length * 8
  | [], [], _ => rfl
  | t :: ts, m :: ms, h => by
    rw [cellsT_cons, List.length_append, cellsT_len ts ms (by simpa using h)]
    simp [cellsT1]; omega
theorem cellsT_app : ∀ (ts us : List Tk) (ms qs : List Mt), ms.length = ts.length → cellsT (ts ++ us) (ms ++ qs) = cellsT ts ms ++ cellsT us qs
  | [], us, [], qs, _ => rfl
  | t :: ts, us, m :: ms, qs, h => by
    rw [List.cons_append, List.cons_append, cellsT_cons, cellsT_app ts us ms qs (by simpa using h), cellsT_cons, List.append_assoc]
theorem cellsT_at : ∀ (ts : List Tk) (ms : List Mt) (i j : Nat), ms.length = ts.length → i < ts.length → j < 8 → (cellsT ts ms)[i * 8 + j]? = (cellsT1 (ts.getD i tk0) (ms.getD i mt0))[j]?
  | t :: ts, m :: ms, 0, j, _, _, hj => by
    rw [cellsT_cons, Nat.zero_mul, Nat.zero_add, List.getElem?_append_left (by simp [cellsT1]; omega)]
    rfl
  | t :: ts, m :: ms, i + 1, j, h, hi, hj => by
    have ih := cellsT_at ts ms i j (by simpa using h) (by simpa using hi) hj
    rw [cellsT_cons, List.getElem?_append_right (by simp [cellsT1]; omega), List.getD_cons_succ, List.getD_cons_succ, ← ih]
    congr 1
    simp [cellsT1]; omega
/-- A block of a track's memory. -/
def blkT (m : Mt) (b : Nat) : Prop := blkX m.y m.X b ∨ blkX m.z m.Y b
section
variable {w w' : World} {lo hi : Nat} {m : Mt} {t : Tk}
theorem own_type {w : World} {base base' : Nat} {e e' : TypeId} {s s' n n' : Nat} {v v' : Value} {xs xs' : List Value} (h : w.ownsRow base e s v n xs) (h' : w.ownsRow base' e' s' v' n' xs') (hne : e ≠ e') {b : Nat} (hb : v.ownBlock = some b) (hb' : v'.ownBlock = some b) : False := by
  rcases owns_ne h h' hne with q | q
  · rw [q] at hb; cases hb
  · exact q (hb.trans hb'.symm)
theorem blk_txt {xs : List Value} {b : Nat} (hb : blkL xs b) : ∃ i, (xs.getD i nilS).ownBlock = some b := by
  obtain ⟨x, hx, hb⟩ := hb
  obtain ⟨i, hi', rfl⟩ := List.getElem_of_mem hx
  exact ⟨i, by simpa [List.getD, hi'] using hb⟩
end
/-- A slice of tracks, read. -/
structure ReadsT (w : World) (ad : Option Addr) (ts : List Tk) : Prop where
  cells : ts.length = 0 ∨ ∃ b off, ad = some ⟨b, off, none⟩ ∧ ∀ i, i < ts.length → ∃ a c a' c', (w.cell? ⟨b, off + i * 8, none⟩ = some (.int .i64 (ts.getD i tk0).xid) ∧ w.cell? ⟨b, off + i * 8 + 1, none⟩ = some (.int .i64 (ts.getD i tk0).begun) ∧ w.cell? ⟨b, off + i * 8 + 2, none⟩ = some (.int .i64 (ts.getD i tk0).ended) ∧ w.cell? ⟨b, off + i * 8 + 3, none⟩ = some (.bool (ts.getD i tk0).all) ∧ w.cell? ⟨b, off + i * 8 + 4, none⟩ = some (.slice a (ts.getD i tk0).rs.length c) ∧ w.cell? ⟨b, off + i * 8 + 5, none⟩ = some (.slice a' (ts.getD i tk0).ws.length c') ∧ w.cell? ⟨b, off + i * 8 + 6, none⟩ = some (.bool (ts.getD i tk0).inn) ∧ w.cell? ⟨b, off + i * 8 + 7, none⟩ = some (.bool (ts.getD i tk0).out)) ∧ ReadsM w a (fl2 (ts.getD i tk0).rs) ∧ (ts.getD i tk0).rs.length ≤ maxLen ∧ ReadsM w a' (ts.getD i tk0).ws ∧ (ts.getD i tk0).ws.length ≤ maxLen
theorem ReadsT.nil (w : World) (ad : Option Addr) : ReadsT w ad [] := ⟨.inl rfl⟩
/-- The cells of a track in a block. -/
structure Box8 (w : World) (b o : Nat) (t : Tk) (x y : Value) : Prop where
  c0 : w.cell? ⟨b, o, none⟩ = some (.int .i64 t.xid)
  c1 : w.cell? ⟨b, o + 1, none⟩ = some (.int .i64 t.begun)
  c2 : w.cell? ⟨b, o + 2, none⟩ = some (.int .i64 t.ended)
  c3 : w.cell? ⟨b, o + 3, none⟩ = some (.bool t.all)
  c4 : w.cell? ⟨b, o + 4, none⟩ = some x
  c5 : w.cell? ⟨b, o + 5, none⟩ = some y
  c6 : w.cell? ⟨b, o + 6, none⟩ = some (.bool t.inn)
  c7 : w.cell? ⟨b, o + 7, none⟩ = some (.bool t.out)
theorem Box8.lt {w : World} {b o : Nat} {t : Tk} {x y : Value} (q : Box8 w b o t x y) : b < w.heap.size := World.block_lt_of_cell? w _ q.c0
theorem Box8.agree {w w' : World} {b o : Nat} {t : Tk} {x y : Value} (q : Box8 w b o t x y) (e : w'.heap[b]? = w.heap[b]?) : Box8 w' b o t x y :=
  ⟨(World.cell?_of_block (w := w) (a := ⟨b, o, none⟩) e).trans q.c0, (World.cell?_of_block (w := w) (a := ⟨b, o + 1, none⟩) e).trans q.c1, (World.cell?_of_block (w := w) (a := ⟨b, o + 2, none⟩) e).trans q.c2, (World.cell?_of_block (w := w) (a := ⟨b, o + 3, none⟩) e).trans q.c3, (World.cell?_of_block (w := w) (a := ⟨b, o + 4, none⟩) e).trans q.c4, (World.cell?_of_block (w := w) (a := ⟨b, o + 5, none⟩) e).trans q.c5, (World.cell?_of_block (w := w) (a := ⟨b, o + 6, none⟩) e).trans q.c6, (World.cell?_of_block (w := w) (a := ⟨b, o + 7, none⟩) e).trans q.c7⟩
theorem Box8.below {w w' : World} {b o : Nat} {t : Tk} {x y : Value} (q : Box8 w b o t x y) {B : Nat} (hb : Below B w w') (hB : w.heap.size ≤ B) : Box8 w' b o t x y := q.agree (hb.block b (Nat.lt_of_lt_of_le q.lt hB))
theorem ReadsT.at {w : World} {ad : Option Addr} {ts : List Tk} (h : ReadsT w ad ts) {k : Nat} (hk : k < ts.length) : ∃ b off a c a' c', ad = some ⟨b, off, none⟩ ∧ Box8 w b (off + k * 8) (ts.getD k tk0) (.slice a (ts.getD k tk0).rs.length c) (.slice a' (ts.getD k tk0).ws.length c') ∧ ReadsM w a (fl2 (ts.getD k tk0).rs) ∧ (ts.getD k tk0).rs.length ≤ maxLen ∧ ReadsM w a' (ts.getD k tk0).ws ∧ (ts.getD k tk0).ws.length ≤ maxLen := by
  rcases h.cells with h0 | ⟨b, off, rfl, hc⟩
  · omega
  · obtain ⟨a, c, a', c', ⟨h0, h1, h2, h3, h4, h5, h6, h7⟩, r1, m1, r2, m2⟩ := hc k hk
    exact ⟨b, off, a, c, a', c', rfl, ⟨h0, h1, h2, h3, h4, h5, h6, h7⟩, r1, m1, r2, m2⟩
theorem ReadsT.below {w w' : World} {ad : Option Addr} {ts : List Tk} (h : ReadsT w ad ts) {B : Nat} (hb : Below B w w') (hB : w.heap.size ≤ B) : ReadsT w' ad ts := by
  refine ⟨?_⟩
  rcases h.cells with h0 | ⟨b, off, rfl, hc⟩
  · exact .inl h0
  · refine .inr ⟨b, off, rfl, fun i hi => ?_⟩
    obtain ⟨a, c, a', c', ⟨h0, h1, h2, h3, h4, h5, h6, h7⟩, r1, m1, r2, m2⟩ := hc i hi
    have q := Box8.below (t := ts.getD i tk0) ⟨h0, h1, h2, h3, h4, h5, h6, h7⟩ hb hB
    exact ⟨a, c, a', c', ⟨q.c0, q.c1, q.c2, q.c3, q.c4, q.c5, q.c6, q.c7⟩, r1.below hb hB, m1, r2.below hb hB, m2⟩
section
variable {w w' : World} {lo hi : Nat} {v : Value} {ts : List Tk}
end
end Go.Proofs.YtoppccfgcccijaaDoor
