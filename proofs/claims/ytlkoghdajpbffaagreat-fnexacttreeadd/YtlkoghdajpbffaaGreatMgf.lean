/- Texts of this proof in one: Ka11 It7 It8 It9 Ic Ar Pt Kb11. -/
import Derived.Test.YtlkoghdajpbffaaGreatMgd
import Derived.Test.YtlkoghdajpbffaaGreatMge
import Derived.Laws.AppendOwnNone
import Derived.Deep.RegionHeld3
import Derived.Deep.MidRow
import Derived.Laws.CopyOwn
import Derived.Laws.Tables
/- Entries of a tree, plain and in memory: read, and where their memory is the call's own. No statement of its own; no conditions. -/




namespace Go.Proofs.YtlkoghdajpbffaaGreat
open Go.RowKit
set_option maxRecDepth 100000
structure En where
 K : Int
 N : Int
 F : Nat
 Z : List Int
 id : Int
def en0 : En := ⟨0, 0, 0, [], 0⟩
def textsE (es : List En) : List (List Int) := es.map (·.Z)
theorem textsE_len (es : List En) : (textsE es).length = es.length := by simp [textsE]
theorem textsE_at (es : List En) (i : Nat) : (textsE es).getD i [] = (es.getD i en0).Z := by
 by_cases h : i < es.length
 · simp [textsE, List.getD, h]
 · rw [List.getD_eq_getElem?_getD, List.getD_eq_getElem?_getD, List.getElem?_eq_none (by rw [textsE_len]; omega), List.getElem?_eq_none (by omega)]; rfl
theorem textsE_app (a b : List En) : textsE (a ++ b) = textsE a ++ textsE b := by simp [textsE]
def cellsE1 (e : En) (x : Value) : List Value := [.int .i64 e.K, .int .i64 e.N, .float .f64 e.F, x, .int .i64 e.id]
def cellsE : List En → List Value → List Value
 | e :: es, x :: xs => cellsE1 e x ++ cellsE es xs
 | _, _ => []
theorem cellsE_nil (xs : List Value) : cellsE [] xs = [] := by unfold cellsE; rfl
theorem cellsE_cons (e : En) (es : List En) (x : Value) (xs : List Value) : cellsE (e :: es) (x :: xs) = cellsE1 e x ++ cellsE es xs := by rw [cellsE]
theorem cellsE_len : ∀ (es : List En) (xs : List Value), xs.length = es.length → (cellsE es xs).length = es.length * 5
 | [], [], _ => rfl
 | e :: es, x :: xs, h => by
  have := cellsE_len es xs (by simpa using h)
  simp only [cellsE, cellsE1, List.length_append, List.length_cons, List.length_nil, this]; omega
theorem cellsE_app : ∀ (es fs : List En) (xs ys : List Value), xs.length = es.length → cellsE (es ++ fs) (xs ++ ys) = cellsE es xs ++ cellsE fs ys
 | [], fs, [], ys, _ => rfl
 | e :: es, fs, x :: xs, ys, h => by
  have := cellsE_app es fs xs ys (by simpa using h)
  rw [List.cons_append, List.cons_append, cellsE_cons, cellsE_cons, this, List.append_assoc]
theorem cellsE_snoc (e : En) (x : Value) (es : List En) (xs : List Value) (h : xs.length = es.length) : cellsE (es ++ [e]) (xs ++ [x]) = cellsE es xs ++ cellsE1 e x := by
 rw [cellsE_app es [e] xs [x] h, cellsE_cons, cellsE_nil, List.append_nil]
theorem cellsE_at : ∀ (es : List En) (xs : List Value) (i j : Nat), xs.length = es.length → i < es.length → j < 5 → (cellsE es xs)[i * 5 + j]? = (cellsE1 (es.getD i en0) (xs.getD i nilS))[j]?
 | e :: es, x :: xs, 0, j, _, _, hj => by
  simp only [cellsE, Nat.zero_mul, Nat.zero_add]
  rw [List.getElem?_append_left (by simp [cellsE1]; omega)]
  rfl
 | e :: es, x :: xs, i + 1, j, h, hi, hj => by
  have := cellsE_at es xs i j (by simpa using h) (by simpa using hi) hj
  simp only [cellsE]
  rw [List.getElem?_append_right (by simp [cellsE1]; omega), show (i + 1) * 5 + j - (cellsE1 e x).length = i * 5 + j by simp [cellsE1]; omega, this]
  simp only [List.getD_cons_succ]
 | [], _, i, j, _, hi, _ => by cases hi
structure Box5 (w : World) (b o : Nat) (K N : Int) (f : Nat) (x : Value) (id : Int) : Prop where
 c0 : w.cell? ⟨b, o, none⟩ = some (.int .i64 K)
 c1 : w.cell? ⟨b, o + 1, none⟩ = some (.int .i64 N)
 c2 : w.cell? ⟨b, o + 2, none⟩ = some (.float .f64 f)
 c3 : w.cell? ⟨b, o + 3, none⟩ = some x
 c4 : w.cell? ⟨b, o + 4, none⟩ = some (.int .i64 id)
theorem Box5.lt {w : World} {b o : Nat} {K N : Int} {f : Nat} {x : Value} {id : Int} (q : Box5 w b o K N f x id) : b < w.heap.size := World.block_lt_of_cell? w _ q.c0
theorem Box5.agree {w w' : World} {b o : Nat} {K N : Int} {f : Nat} {x : Value} {id : Int} (q : Box5 w b o K N f x id) (e : w'.heap[b]? = w.heap[b]?) : Box5 w' b o K N f x id :=
 ⟨(World.cell?_of_block (w := w) (a := ⟨b, o, none⟩) e).trans q.c0, (World.cell?_of_block (w := w) (a := ⟨b, o + 1, none⟩) e).trans q.c1, (World.cell?_of_block (w := w) (a := ⟨b, o + 2, none⟩) e).trans q.c2, (World.cell?_of_block (w := w) (a := ⟨b, o + 3, none⟩) e).trans q.c3, (World.cell?_of_block (w := w) (a := ⟨b, o + 4, none⟩) e).trans q.c4⟩
theorem Box5.below {w w' : World} {b o : Nat} {K N : Int} {f : Nat} {x : Value} {id : Int} (q : Box5 w b o K N f x id) {B0 : Nat} (hb : Below B0 w w') (hB : w.heap.size ≤ B0) : Box5 w' b o K N f x id :=
 q.agree (hb.block b (Nat.lt_of_lt_of_le q.lt hB))
structure ReadsE (w : World) (ad : Option Addr) (es : List En) : Prop where
 cells : es.length = 0 ∨ ∃ b off, ad = some ⟨b, off, none⟩ ∧ ∀ i, i < es.length → ∃ x, Box5 w b (off + i * 5) (es.getD i en0).K (es.getD i en0).N (es.getD i en0).F x (es.getD i en0).id ∧ Row w x (es.getD i en0).Z ∧ (es.getD i en0).F < 18446744073709551616
theorem ReadsE.nil (w : World) (ad : Option Addr) : ReadsE w ad [] := ⟨.inl rfl⟩
theorem ReadsE.below {w w' : World} {ad : Option Addr} {es : List En} (h : ReadsE w ad es) {B : Nat} (hb : Below B w w') (hB : w.heap.size ≤ B) : ReadsE w' ad es := by
 refine ⟨?_⟩
 rcases h.cells with h0 | ⟨b, off, rfl, hc⟩
 · exact .inl h0
 · refine .inr ⟨b, off, rfl, fun i hi => ?_⟩
   obtain ⟨x, h1, h2, h3⟩ := hc i hi
   exact ⟨x, h1.below hb hB, h2.below hb hB, h3⟩
theorem ReadsE.at {w : World} {ad : Option Addr} {es : List En} (h : ReadsE w ad es) {k : Nat} (hk : k < es.length) : ∃ b off a c, ad = some ⟨b, off, none⟩ ∧ Box5 w b (off + k * 5) (es.getD k en0).K (es.getD k en0).N (es.getD k en0).F (.slice a (es.getD k en0).Z.length c) (es.getD k en0).id ∧ Reads w a (es.getD k en0).Z.length (es.getD k en0).Z ∧ (a = none → c = 0) ∧ (es.getD k en0).Z.length ≤ maxLen ∧ (es.getD k en0).F < 18446744073709551616 := by
 rcases h.cells with h0 | ⟨b, off, rfl, hc⟩
 · omega
 · obtain ⟨x, h1, ⟨a, c, rfl, h2, h3, h4⟩, h5⟩ := hc k hk
   exact ⟨b, off, a, c, rfl, h1, h2, h3, h4, h5⟩
structure OwnE (w : World) (lo hi : Nat) (v : Value) (es : List En) : Prop where
 own : ∃ xs : List Value, w.ownsRow lo 48 5 v es.length (cellsE es xs) ∧ Bands w lo hi xs (textsE es)
 top : ∀ g, v.ownBlock = some g → g < hi
 fl : ∀ i, (es.getD i en0).F < 18446744073709551616
section
variable {w w' : World} {lo hi : Nat} {v : Value} {es : List En}
theorem OwnE.nil (w : World) (lo hi : Nat) : OwnE w lo hi (.slice none 0 0) [] :=
 ⟨⟨[], World.ownsRow_nil _ _ _ _, Bands.nil _ _ _⟩, (fun g hg => by cases hg), fun i => by simp [en0]⟩
theorem OwnE.slice (h : OwnE w lo hi v es) : ∃ a c, v = .slice a es.length c := by
 obtain ⟨xs, o, _⟩ := h.own
 exact own_sl o
theorem OwnE.agree (h : OwnE w lo hi v es) (ha : Agree lo hi w w') : OwnE w' lo hi v es := by
 obtain ⟨xs, o, b⟩ := h.own
 exact ⟨⟨xs, owns_agree o ha (fun g hg => ⟨(o.lt g hg).1, h.top g hg⟩), b.agree ha⟩, h.top, h.fl⟩
theorem OwnE.below (h : OwnE w lo hi v es) {B : Nat} (hb : Below B w w') (hB : hi ≤ B) : OwnE w' lo hi v es := h.agree (Agree.below hb hB)
theorem OwnE.mono {lo' hi' : Nat} (h : OwnE w lo hi v es) (hl : lo' ≤ lo) (hh : hi ≤ hi') : OwnE w lo' hi' v es := by
 obtain ⟨xs, o, b⟩ := h.own
 exact ⟨⟨xs, owns_lower o hl, b.mono hl hh⟩, fun g hg => Nat.lt_of_lt_of_le (h.top g hg) hh, h.fl⟩
theorem OwnE.rd {a : Option Addr} {n c : Nat} (h : OwnE w lo hi (.slice a n c) es) : ReadsE w a es := by
 obtain ⟨xs, o, hB⟩ := h.own
 have hxl : xs.length = es.length := by rw [hB.len, textsE_len]
 rcases o.2 with ⟨e, h0⟩ | ⟨g, cap, cur, e, _⟩
 · cases e; exact ⟨.inl h0⟩
 · cases e
   refine ⟨.inr ⟨g, 0, rfl, fun i hi => ⟨xs.getD i nilS, ?_, ?_, h.fl i⟩⟩⟩
   · have hc := fun j (hj : j < 5) => (o.cellAt (i * 5 + j) (by omega)).trans (cellsE_at es xs i j hxl hi hj)
     rw [Nat.zero_add]
     exact ⟨hc 0 (by omega), hc 1 (by omega), hc 2 (by omega), hc 3 (by omega), hc 4 (by omega)⟩
   · have := hB.row i; rw [textsE_at] at this; exact this
theorem OwnE.aside (h : OwnE w lo hi v es) {b : Nat} {e : TypeId} {s n : Nat} {v' : Value} {xs : List Value} (o : w.ownsRow b e s v' n xs) (hE : (48 : TypeId) ≠ e) (h5 : (5 : TypeId) ≠ e) (hg : w.grownBy w' v'.ownBlock) : OwnE w' lo hi v es := by
 obtain ⟨ys, o1, hB⟩ := h.own
 exact ⟨⟨ys, o1.kept hg (owns_ne o1 o hE), hB.beside hg (fun i => owns_ne (hB.own i) o h5)⟩, h.top, h.fl⟩
theorem OwnE.push {mid n : Nat} {a : Option Addr} {c : Nat} {xs : List Value} (o : w.ownsRow lo 48 5 (.slice a n c) n (cellsE es xs)) (hn : es.length = n) (hB : Bands w lo mid xs (textsE es)) (hf : ∀ i, (es.getD i en0).F < 18446744073709551616) (hlm : lo ≤ mid) (hmw : mid ≤ w.heap.size) {e : En} {x : Value} (o1 : w.ownsRow mid 5 1 x e.Z.length (bys e.Z)) (h1 : ∀ j, 0 ≤ e.Z.getD j 0 ∧ e.Z.getD j 0 ≤ 255) (he : e.F < 18446744073709551616)
 (o' : w'.ownsRow lo 48 5 v (n + 1) (cellsE es xs ++ cellsE1 e x)) (g : w.grownBy w' (Value.slice a n c).ownBlock) : OwnE w' lo w'.heap.size v (es ++ [e]) := by
 have hxl : xs.length = es.length := by rw [hB.len, textsE_len]
 have B2 : Bands w lo w.heap.size (xs ++ [x]) (textsE es ++ [e.Z]) := hB.append (Bands.one o1 h1 qN) hlm hmw
 have B3 := B2.beside g (fun i => owns_ne (B2.own i) o (by decide))
 refine ⟨⟨xs ++ [x], ?_, ?_⟩, fun g' hg' => (o'.lt g' hg').2, fun i => ?_⟩
 · rw [List.length_append, hn, cellsE_snoc _ _ _ _ hxl]; exact o'
 · rw [textsE_app]; exact B3.mono qN g.size
 · rw [getD_app]
   split
   · exact hf i
   · rcases getD_mem_or [e] (i - es.length) en0 with h | h
     · rw [h]; simp [en0]
     · rw [List.mem_singleton.1 h]; exact he
end
end Go.Proofs.YtlkoghdajpbffaaGreat
/- Eight bytes, high first: the contract of the specification's l3high. No conditions. -/

namespace Go.Proofs.YtlkoghdajpbffaaGreat
open Go.RowKit
def hb (x j : Nat) : Int := ((x / 2 ^ (8 * (7 - j)) % 256 : Nat) : Int)
end Go.Proofs.YtlkoghdajpbffaaGreat
/- An item as bytes: the contracts of the specification's l3bytes. Conditions: texts of at most 2^21 bytes. -/


namespace Go.Proofs.YtlkoghdajpbffaaGreat
open Go.RowKit
end Go.Proofs.YtlkoghdajpbffaaGreat
/- The contract of the specification's KeyBytes. Conditions: texts of at most 2^21 bytes. -/


namespace Go.Proofs.YtlkoghdajpbffaaGreat
open Go.RowKit
end Go.Proofs.YtlkoghdajpbffaaGreat
/- The contract of the specification's l3copy. Conditions: texts of at most 2^21 bytes. -/

namespace Go.Proofs.YtlkoghdajpbffaaGreat
open Go.RowKit
theorem three_first (w : World) (a b c : Obj) : (((w.alloc a).alloc b).alloc c).heap[w.heap.size]? = some a := by
 have h1 := alloc_size w a
 have h2 := alloc_size (w.alloc a) b
 rw [alloc_old _ _ _ (by omega), alloc_old _ _ _ (by omega)]
 exact heap_alloc_new w a
set_option maxRecDepth 100000 in
set_option maxHeartbeats 3200000 in
theorem spec_l3copy (K N : Int) (f : Nat) {ad : Option Addr} {n : Nat} (cap : Nat) (hnil : ad = none → cap = 0) {zs : List Int} {w : World} (h : Reads w ad n zs) (hn : n ≤ 2097152) :
 Calls Tryz.prog 17 #[.agg #[.int .i64 K, .int .i64 N, .float .f64 f, .slice ad n cap]] w fun e w' => ∃ v, e = .returned (.agg #[.int .i64 K, .int .i64 N, .float .f64 f, v]) ∧ w'.ownsRow w.heap.size 5 1 v n (bys zs) ∧ Below w.heap.size w w' := by
 obtain ⟨i0, hi, hz0, hz1, hz2⟩ := info_parts Tryz.info5
 have hl := h.len
 have hbd := h.bd
 have hst := fun w a m => run_store Tryz.prog w a (.float .f64 f) m rfl
 obtain ⟨z, R1, R2, bW⟩ := three w (.cells #[.int .i64 K, .int .i64 N, .float .f64 f, .slice ad n cap] 37) (.cells #[.int .i64 0, .int .i64 0, .float .f64 0, .slice none 0 0] 37) (.cells #[] 5)
 have R0 := three_first w (.cells #[.int .i64 K, .int .i64 N, .float .f64 f, .slice ad n cap] 37) (.cells #[.int .i64 0, .int .i64 0, .float .f64 0, .slice none 0 0] 37) (.cells #[] 5)
 have z2 := alloc_size (w.alloc (.cells #[.int .i64 K, .int .i64 N, .float .f64 f, .slice ad n cap] 37)) (.cells #[.int .i64 0, .int .i64 0, .float .f64 0, .slice none 0 0] 37)
 have z1 := alloc_size w (.cells #[.int .i64 K, .int .i64 N, .float .f64 f, .slice ad n cap] 37)
 rw [z1] at z2
 have o5 := World.ownsRow_lit (base := w.heap.size + 1 + 1) (e := 5) (size := 1) ((w.alloc (.cells #[.int .i64 K, .int .i64 N, .float .f64 f, .slice ad n cap] 37)).alloc (.cells #[.int .i64 0, .int .i64 0, .float .f64 0, .slice none 0 0] 37)) #[] 0 (by omega) (Nat.zero_le _) rfl
 rw [z2] at o5
 have r2 := h.below bW qN
 have O5 := hid o5
 have H0 := hid R0
 have H1 := hid R1
 have HB := hid bW
 have HZ := hid z
 have HR := hid r2
 clear o5 R0 R1 R2 bW z z2 r2 z1
 rcases hc : ad with _ | a
 · subst hc
   obtain rfl := hnil rfl
   obtain rfl : n = 0 := by
    rcases h.cells with h0 | ⟨b, off, e, _⟩
    · exact h0
    · cases e
   obtain rfl : zs = [] := List.eq_nil_of_length_eq_zero hl
   clear h
   go_enter Tryz.func17, Tryz.ntmps17
   go_wp2_with (at_builtin; refine wpList_append_own_none rfl _ _ 26 rfl (w.heap.size + 1 + 1) 5 i0 1 Tryz.underlying26 hi _ _ _ rfl O5.out rfl ?_)
   obtain ⟨_, Q1, _, bQ⟩ := three w (.cells #[.int .i64 K, .int .i64 N, .float .f64 f, .slice (some ⟨w.heap.size + 1 + 1, 0, none⟩) 0 0] 37) (.cells #[.int .i64 K, .int .i64 N, .float .f64 f, .slice (some ⟨w.heap.size + 1 + 1, 0, none⟩) 0 0] 37) (.cells #[] 5)
   have y1 := alloc_size w (.cells #[.int .i64 K, .int .i64 N, .float .f64 f, .slice (some ⟨w.heap.size + 1 + 1, 0, none⟩) 0 0] 37)
   have y2 := alloc_size (w.alloc (.cells #[.int .i64 K, .int .i64 N, .float .f64 f, .slice (some ⟨w.heap.size + 1 + 1, 0, none⟩) 0 0] 37)) (.cells #[.int .i64 K, .int .i64 N, .float .f64 f, .slice (some ⟨w.heap.size + 1 + 1, 0, none⟩) 0 0] 37)
   rw [y1] at y2
   have oQ := World.ownsRow_lit (base := w.heap.size) (e := 5) (size := 1) ((w.alloc (.cells #[.int .i64 K, .int .i64 N, .float .f64 f, .slice (some ⟨w.heap.size + 1 + 1, 0, none⟩) 0 0] 37)).alloc (.cells #[.int .i64 K, .int .i64 N, .float .f64 f, .slice (some ⟨w.heap.size + 1 + 1, 0, none⟩) 0 0] 37)) #[] 0 (by omega) (Nat.zero_le _) rfl
   rw [y2] at oQ
   exact bodyPost_ret (results_cell_row Tryz.results17 _ _ (w.heap.size + 1) 37 _ (0, 0) _ rfl Q1 Tryz.underlying37 rfl size37) rfl ⟨_, rfl, oQ, bQ⟩
 · subst hc
   clear h
   go_enter Tryz.func17, Tryz.ntmps17
   go_wp2_with (at_builtin; refine wpList_append_own _ rfl _ _ 26 rfl (w.heap.size + 1 + 1) 5 i0 (.int .u8 0) 1 1 Tryz.underlying26 hi hz0 hz1 hz2 rfl (by decide) _ _ _ rfl O5.out a n cap (bys zs) rfl ?k2 HR.out.news (bys_one _) ?k4 ?k5 ?k6 ?_)
   case k2 => simp [bys_length, hl]
   case k4 => unfold maxLen; omega
   case k5 => omega
   intro v7 w7 o7 g7 _
   have o8 : w7.ownsRow (w.heap.size + 1 + 1) 5 1 v7 n (bys zs) := by simpa using o7
   obtain ⟨ad7, cap7, rfl, r7, d7⟩ := Reads.own o8 hbd
   have zW := HZ.out
   have B7 : Below w.heap.size w w7 := HB.out.grown g7 (by omega) (fun k hk => by have := (O5.out.lt k hk).1; omega)
   have S0 : w7.heap[w.heap.size]? = _ := (g7.block _ (by omega) (fun e => by have := (O5.out.lt _ e.symm).1; omega)).trans H0.out
   have S1 : w7.heap[w.heap.size + 1]? = _ := (g7.block _ (by omega) (fun e => by have := (O5.out.lt _ e.symm).1; omega)).trans H1.out
   have c3 : w7.cell? ⟨w.heap.size, 3, none⟩ = some (.slice (some a) n cap) := qC S0
   have fz : w7.frozen? ⟨w.heap.size, 3, none⟩ = false := frozen_of_row _ _ _ _ _ S0
   have T0 := hid (heap_setCell_same w7 w.heap.size 3 _ 37 (.slice ad7 n cap7) S0)
   have T1 := hid ((heap_setCell_other w7 ⟨w.heap.size, 3, none⟩ (w.heap.size + 1) (.slice ad7 n cap7) (by simp)).trans S1)
   have BC := hid (B7.setCell (p := ⟨w.heap.size, 3, none⟩) (by simp) (.slice ad7 n cap7))
   have O7 := hid o8
   clear S0 S1 g7 o7 o8 r7 d7 zW B7 O5 H0 H1 HB HZ HR
   go_wp2_with (first
    | (refine wpList_load_row rfl 37 (.tmp 1) rfl w.heap.size rfl 37 _ (0, 0) _ T0.out Tryz.underlying37 rfl size37 ?_)
    | (refine wpList_store_row rfl 37 (.tmp 2) (.tmp 8) rfl (w.heap.size + 1) #[.int .i64 K, .int .i64 N, .float .f64 f, .slice ad7 n cap7] rfl rfl 37 _ T1.out ?s1 ?s2 ?s3 ?_))
   case s1 => exact size37
   case s2 => rfl
   case s3 => simp [Value.oneCell']
   refine bodyPost_ret (results_cell_row Tryz.results17 _ _ (w.heap.size + 1) 37 #[.int .i64 K, .int .i64 N, .float .f64 f, .slice ad7 n cap7] (0, 0) _ rfl (setRow_heap _ _ _ _ _ _ T1.out) Tryz.underlying37 rfl size37) rfl ⟨.slice ad7 n cap7, rfl, owns_base (owns_at O7.out fun k hk => ?_) (by omega), below_setRow BC.out (by omega) _⟩
   rw [setRow_other _ _ _ _ (by omega), heap_setCell_other _ _ _ _ (by simp; omega)]
end Go.Proofs.YtlkoghdajpbffaaGreat
/- An item in a block of its own, and its text. -/

namespace Go.Proofs.YtlkoghdajpbffaaGreat
open Go.RowKit
structure Arg (w : World) (g : Nat) (K N : Int) (f : Nat) (ad : Option Addr) (n cap : Nat) (zs : List Int) : Prop where
 box : Box w g K N f ad n cap
 reads : Reads w ad n zs
 lt : g < w.heap.size
theorem Arg.below {w w' : World} {g : Nat} {K N : Int} {f : Nat} {ad : Option Addr} {n cap : Nat} {zs : List Int} (a : Arg w g K N f ad n cap zs) {B : Nat} (h : Below B w w') (hB : w.heap.size ≤ B) : Arg w' g K N f ad n cap zs :=
 ⟨a.box.below h (Nat.lt_of_lt_of_le a.lt hB), a.reads.below h hB, Nat.lt_of_lt_of_le a.lt h.size⟩
theorem Reads.alloc {w : World} {ad : Option Addr} {n : Nat} {zs : List Int} (h : Reads w ad n zs) (o : Obj) : Reads (w.alloc o) ad n zs :=
 h.below ((Below.refl w.heap.size w).alloc qN o) qN
theorem Arg.new {w : World} (K N : Int) (f : Nat) {ad : Option Addr} {n : Nat} (cap : Nat) {zs : List Int} (h : Reads w ad n zs) (t : TypeId) (g : Nat) (hg : g = w.heap.size) : Arg (w.alloc (.cells #[.int .i64 K, .int .i64 N, .float .f64 f, .slice ad n cap] t)) g K N f ad n cap zs := by
 subst hg
 exact ⟨Box.new w K N f ad n cap t, h.alloc _, by rw [alloc_size]; omega⟩
end Go.Proofs.YtlkoghdajpbffaaGreat
/- A store of several cells into a part of a row. No statement of its own; no conditions. -/


namespace Go.Proofs.YtlkoghdajpbffaaGreat
open Go.RowKit
def putAt (cs : Array Value) : Nat → List Value → Array Value
 | _, [] => cs
 | o, v :: r => putAt (cs.setIfInBounds o v) (o + 1) r
theorem setCells_row {g : Nat} {t : TypeId} : ∀ (vs : List Value) (o : Nat) (w : World) (cs : Array Value), w.heap[g]? = some (.cells cs t (0, 0)) → w.setCells g o vs = w.setRow g (putAt cs o vs)
 | [], _, w, cs, h => (setRow_self w g cs t (0, 0) h).symm
 | v :: r, o, w, cs, h => by
  show (w.setCell ⟨g, o, none⟩ v).setCells g (o + 1) r = w.setRow g (putAt (cs.setIfInBounds o v) (o + 1) r)
  rw [setCell_eq_setRow w g o cs t (0, 0) v h, setCells_row r (o + 1) _ _ (setRow_heap w g cs _ t _ h), setRow_setRow]
theorem there_row {w : World} {g o k : Nat} {cs : Array Value} {t : TypeId} (h : w.heap[g]? = some (.cells cs t (0, 0))) (hk : o + k ≤ cs.size) : w.there g o k := by
 intro j hj
 refine ⟨?_, frozen_of_row _ _ _ _ _ h⟩
 rw [cell_of_row _ _ _ _ _ _ h, Array.getElem?_eq_getElem (by omega)]
 rfl
theorem wp_store_part {P : Program} {op : Oper} {a : Act} {w : World} {K : Act → World → Prop} {Q : Exit → Act → World → Prop} (ty : TypeId) (x y : Operand) (ho : op.op = .store ty x y)
 (g o : Nat) (cells : Array Value) (hx : a.eval x = .pointer (some ⟨g, o, none⟩)) (hy : a.eval y = .agg cells)
 (t : TypeId) (old : Array Value) (hg : w.heap[g]? = some (.cells old t (0, 0))) (hi : (P.info? ty).map (·.size) = some cells.size)
 (hold : o + cells.size ≤ old.size) (h1 : cells.all (·.oneCell') = true) (new : Array Value) (hnew : putAt old o cells.toList = new)
 (h : K (a.put op.dst undef) (w.setRow g new)) : op.wp P a w K Q := by
 subst hnew
 refine wp_store_mid ty x y ho g o cells hx hy (there_row hg hold) hi h1 ?_
 rw [setCells_row cells.toList o w old hg]
 exact h
theorem wpList_store_part {P : Program} {ops : Array Oper} {rest : List Oper} {op : Oper} {a : Act} {w : World} {Q : Exit → Act → World → Prop} (hgd : op.guard = none) (ty : TypeId) (x y : Operand) (ho : op.op = .store ty x y)
 (g o : Nat) (cells : Array Value) (hx : a.eval x = .pointer (some ⟨g, o, none⟩)) (hy : a.eval y = .agg cells)
 (t : TypeId) (old : Array Value) (hg : w.heap[g]? = some (.cells old t (0, 0))) (hi : (P.info? ty).map (·.size) = some cells.size)
 (hold : o + cells.size ≤ old.size) (h1 : cells.all (·.oneCell') = true) (new : Array Value) (hnew : putAt old o cells.toList = new)
 (h : wpList P ops Q rest (a.put op.dst undef) (w.setRow g new)) : wpList P ops Q (op :: rest) a w :=
 wpList_plain hgd fun _ hK => wp_store_part ty x y ho g o cells hx hy t old hg hi hold h1 new hnew (hK _ _ h)
end Go.Proofs.YtlkoghdajpbffaaGreat
/- The contracts of the laws' toEntry, toEntryS, szEntry, szEntryS, eqEntry, eqEntryS. Conditions: entries of at most 2^21 bytes together. -/









namespace Go.Proofs.YtlkoghdajpbffaaGreat
open Go.RowKit
set_option maxRecDepth 100000
theorem row_grown11 (u : World) (q : Nat) (R : Array Value) : u.grownBy (u.setRow q R) (some q) := ⟨rfl, rfl, rfl, by simp, fun i _ hne => setRow_other _ _ _ _ (fun e => hne (by rw [e]))⟩
theorem grown_set11 (w : World) (b o : Nat) (v : Value) : w.grownBy (w.setCell ⟨b, o, none⟩ v) (some b) := ⟨rfl, rfl, rfl, by rw [set_size]; exact Nat.le_refl _, fun k _ hk => heap_set_ne w b o k v (fun e => hk (by rw [e]))⟩
theorem two_rows11 (w : World) (a b : Obj) : ((w.alloc a).alloc b).heap[w.heap.size]? = some a ∧ ((w.alloc a).alloc b).heap[w.heap.size + 1]? = some b ∧ ((w.alloc a).alloc b).heap.size = w.heap.size + 2 := by
 have z1 := alloc_size w a
 have z2 := alloc_size (w.alloc a) b
 refine ⟨?_, ?_, by omega⟩
 · rw [heap_alloc_old _ _ (by omega)]; exact heap_alloc_new w a
 · have := heap_alloc_new (w.alloc a) b
   rwa [z1] at this
def lft11 (left : Int) (n : Nat) : Int := if left < n then -1 else left - n
theorem Tryz.infoEn : (Tryz.prog.info? 48).map (fun i => (i.zero, i.size, i.bytes)) = some (some (.agg #[.int .i64 0, .int .i64 0, .float .f64 0, .slice none 0 0, .int .i64 0]), 5, 56) := by kernel_rfl
theorem size_en : (Tryz.prog.info? 48).map (·.size) = some 5 := by kernel_rfl
theorem size_it11 : (Tryz.prog.info? 37).map (·.size) = some 4 := by kernel_rfl
set_option maxHeartbeats 3200000 in
theorem toEntry (K N : Int) (f : Nat) {ad : Option Addr} {n : Nat} (cap : Nat) (id : Int) {zs : List Int} {w : World} (rk : Reads w ad n zs) (hn : n ≤ 2097152) :
 Calls Tryz.prog 97 #[.agg #[.int .i64 K, .int .i64 N, .float .f64 f, .slice ad n cap, .int .i64 id]] w fun e w' => ∃ g1, e = .returned (.agg #[.int .i64 K, .int .i64 N, .float .f64 f, .slice (some ⟨g1, 0, none⟩) n n, .int .i64 id]) ∧ w'.ownsRow w.heap.size 5 1 (.slice (some ⟨g1, 0, none⟩) n n) n (bys zs) ∧ Below w.heap.size w w' := by
 have hst := fun w a m => run_store Tryz.prog w a (.float .f64 f) m rfl
 obtain ⟨z3, r1, r2, b3⟩ := three w (.cells #[.int .i64 K, .int .i64 N, .float .f64 f, .slice ad n cap, .int .i64 id] 146) (.cells #[.int .i64 0, .int .i64 0, .float .f64 0, .slice none 0 0, .int .i64 0] 48) (.cells #[.int .i64 0, .int .i64 0, .float .f64 0, .slice none 0 0, .int .i64 0] 48)
 have r0 := three_first w (.cells #[.int .i64 K, .int .i64 N, .float .f64 f, .slice ad n cap, .int .i64 id] 146) (.cells #[.int .i64 0, .int .i64 0, .float .f64 0, .slice none 0 0, .int .i64 0] 48) (.cells #[.int .i64 0, .int .i64 0, .float .f64 0, .slice none 0 0, .int .i64 0] 48)
 have H0 := hid r0
 have H1 := hid r1
 have H2 := hid r2
 have HZ := hid z3
 have HB := hid b3
 have RK := hid (rk.below b3 qN)
 clear r0 r1 r2 z3 b3 rk
 go_enter Tryz.func97, Tryz.ntmps97
 go_wp2_with fail
 refine (toItem K N f cap RK.out hn).mono ?_
 rintro e w1 ⟨g1, rfl, ow, b⟩
 have z := HZ.out
 have bs := b.size
 have t0 := (b.block w.heap.size (by omega)).trans H0.out
 have t1 := (b.block (w.heap.size + 1) (by omega)).trans H1.out
 have t2 := (b.block (w.heap.size + 1 + 1) (by omega)).trans H2.out
 have og := ow.lt g1 rfl
 have bb := HB.out.trans (b.mono HB.out.size)
 have T2 := hid t2
 have u2 := setRow_heap w1 (w.heap.size + 1 + 1) _ #[.int .i64 K, .int .i64 N, .float .f64 f, .slice (some ⟨g1, 0, none⟩) n n, .int .i64 0] _ _ t2
 have u2b := heap_setCell_same _ (w.heap.size + 1 + 1) 4 _ 48 (.int .i64 id) u2
 have u1 := (heap_setCell_other (w1.setRow (w.heap.size + 1 + 1) #[.int .i64 K, .int .i64 N, .float .f64 f, .slice (some ⟨g1, 0, none⟩) n n, .int .i64 0]) ⟨(w.heap.size + 1 + 1), 4, none⟩ (w.heap.size + 1) (.int .i64 id) (by simp)).trans ((setRow_other w1 (w.heap.size + 1 + 1) (w.heap.size + 1) #[.int .i64 K, .int .i64 N, .float .f64 f, .slice (some ⟨g1, 0, none⟩) n n, .int .i64 0] (by omega)).trans t1)
 have u0 := (setRow_other w1 (w.heap.size + 1 + 1) w.heap.size #[.int .i64 K, .int .i64 N, .float .f64 f, .slice (some ⟨g1, 0, none⟩) n n, .int .i64 0] (by omega)).trans t0
 have gA := row_grown11 w1 (w.heap.size + 1 + 1) #[.int .i64 K, .int .i64 N, .float .f64 f, .slice (some ⟨g1, 0, none⟩) n n, .int .i64 0]
 have gB := grown_set11 (w1.setRow (w.heap.size + 1 + 1) #[.int .i64 K, .int .i64 N, .float .f64 f, .slice (some ⟨g1, 0, none⟩) n n, .int .i64 0]) (w.heap.size + 1 + 1) 4 (.int .i64 id)
 have gC := row_grown11 ((w1.setRow (w.heap.size + 1 + 1) #[.int .i64 K, .int .i64 N, .float .f64 f, .slice (some ⟨g1, 0, none⟩) n n, .int .i64 0]).setCell ⟨(w.heap.size + 1 + 1), 4, none⟩ (.int .i64 id)) (w.heap.size + 1) #[.int .i64 K, .int .i64 N, .float .f64 f, .slice (some ⟨g1, 0, none⟩) n n, .int .i64 id]
 have O3 := hid (owns_base (base' := w.heap.size) (((ow.kept gA (.inr (by simp [Value.ownBlock]; omega))).kept gB (.inr (by simp [Value.ownBlock]; omega))).kept gC (.inr (by simp [Value.ownBlock]; omega))) (by omega))
 have B3 := hid (below_setRow ((below_setRow bb (show w.heap.size ≤ (w.heap.size + 1 + 1) by omega) #[.int .i64 K, .int .i64 N, .float .f64 f, .slice (some ⟨g1, 0, none⟩) n n, .int .i64 0]).setCell (p := ⟨(w.heap.size + 1 + 1), 4, none⟩) (by simp; omega) (.int .i64 id)) (show w.heap.size ≤ (w.heap.size + 1) by omega) #[.int .i64 K, .int .i64 N, .float .f64 f, .slice (some ⟨g1, 0, none⟩) n n, .int .i64 id])
 have c4 : (w1.setRow (w.heap.size + 1 + 1) #[.int .i64 K, .int .i64 N, .float .f64 f, .slice (some ⟨g1, 0, none⟩) n n, .int .i64 0]).cell? ⟨w.heap.size, 4, none⟩ = some (.int .i64 id) := qC u0
 have d4 : (w1.setRow (w.heap.size + 1 + 1) #[.int .i64 K, .int .i64 N, .float .f64 f, .slice (some ⟨g1, 0, none⟩) n n, .int .i64 0]).cell? ⟨(w.heap.size + 1 + 1), 4, none⟩ = some (.int .i64 0) := qC u2
 have d5 : (w1.setRow (w.heap.size + 1 + 1) #[.int .i64 K, .int .i64 N, .float .f64 f, .slice (some ⟨g1, 0, none⟩) n n, .int .i64 0]).frozen? ⟨(w.heap.size + 1 + 1), 4, none⟩ = false := frozen_of_row _ _ _ _ _ u2
 have U2 := hid u2b
 have U1 := hid u1
 clear z bs t0 t1 t2 og bb ow b H0 H1 H2 HZ HB RK u2 u2b u1 u0 gA gB gC
 go_wp2_with (first
  | (refine wpList_store_part rfl 37 (.tmp 7) (.tmp 6) rfl (w.heap.size + 1 + 1) 0 #[.int .i64 K, .int .i64 N, .float .f64 f, .slice (some ⟨g1, 0, none⟩) n n] rfl rfl 48 _ T2.out ?s1 ?s2 ?s3 #[.int .i64 K, .int .i64 N, .float .f64 f, .slice (some ⟨g1, 0, none⟩) n n, .int .i64 0] rfl ?_)
  | (refine wpList_load_row rfl 48 (.tmp 3) rfl (w.heap.size + 1 + 1) rfl 48 _ (0, 0) _ U2.out Tryz.underlying48 rfl size_en ?_)
  | (refine wpList_store_row rfl 48 (.tmp 2) (.tmp 11) rfl (w.heap.size + 1) #[.int .i64 K, .int .i64 N, .float .f64 f, .slice (some ⟨g1, 0, none⟩) n n, .int .i64 id] rfl rfl 48 _ U1.out ?s7 ?s8 ?s9 ?_))
 case s1 => exact size_it11
 case s2 => simp
 case s3 => simp [Value.oneCell']
 case s7 => exact size_en
 case s8 => rfl
 case s9 => simp [Value.oneCell']
 exact bodyPost_ret (results_cell_row Tryz.results97 _ _ (w.heap.size + 1) 48 _ (0, 0) _ rfl (setRow_heap _ _ _ _ _ _ U1.out) Tryz.underlying48 rfl size_en) rfl ⟨g1, rfl, O3.out, B3.out⟩
set_option maxHeartbeats 1600000 in
theorem szEntry (K N : Int) (f : Nat) (ad : Option Addr) (n cap : Nat) (id : Int) (left : Int) (hn : n ≤ 9223372036854775807) (h0 : 0 ≤ left) (h1 : left ≤ 1048576) (w : World) :
 Calls Tryz.prog 94 #[.agg #[.int .i64 K, .int .i64 N, .float .f64 f, .slice ad n cap, .int .i64 id], .int .i64 left] w fun e w' => e = .returned (.int .i64 (lft11 left n)) ∧ Below w.heap.size w w' := by
 have hst := fun w a m => run_store Tryz.prog w a (.float .f64 f) m rfl
 have HB := hid (Below.alloc1 w (.cells #[.int .i64 K, .int .i64 N, .float .f64 f, .slice ad n cap, .int .i64 id] 146))
 obtain ⟨M, hM⟩ : ∃ M : Int, lft11 left n = M := ⟨_, rfl⟩
 have hM0 : M < 0 → M = -1 := by unfold lft11 at hM; split at hM <;> omega
 have HM := hid hM
 have HM0 := hid hM0
 clear hM hM0
 go_enter Tryz.func94, Tryz.ntmps94
 go_wp2_with fail
 refine (szItem K N f ad n cap left hn h0 h1 _).mono ?_
 rintro e w1 ⟨rfl, b⟩
 rw [show (if left < (n : Int) then (-1 : Int) else left - n) = M from HM.out]
 replace HB := hid (HB.out.trans (b.mono HB.out.size))
 clear b
 by_cases hq : M < 0
 · go_wp2_with fail
   go_ret
   exact ⟨by rw [HM.out, HM0.out hq]; rfl, HB.out⟩
 · go_wp2_with fail
   go_ret
   exact ⟨by rw [HM.out]; rfl, HB.out⟩
set_option maxHeartbeats 3200000 in
theorem eqEntry (K N : Int) (f : Nat) {ad bd : Option Addr} {n : Nat} (cap cp : Nat) (id : Int) {zs : List Int} {w : World} (hf : f < 18446744073709551616) (rk : Reads w ad n zs) (rk' : Reads w bd n zs) (hn : n ≤ 2097152) :
 Calls Tryz.prog 105 #[.agg #[.int .i64 K, .int .i64 N, .float .f64 f, .slice ad n cap, .int .i64 id], .agg #[.int .i64 K, .int .i64 N, .float .f64 f, .slice bd n cp, .int .i64 id]] w fun e w' => e = .returned (.bool true) ∧ Below w.heap.size w w' := by
 have hst := fun w a m => run_store Tryz.prog w a (.float .f64 f) m rfl
 have hB := two w (.cells #[.int .i64 K, .int .i64 N, .float .f64 f, .slice ad n cap, .int .i64 id] 48) (.cells #[.int .i64 K, .int .i64 N, .float .f64 f, .slice bd n cp, .int .i64 id] 48)
 have H1 := hid (rk.below hB qN)
 have H2 := hid (rk'.below hB qN)
 have HB := hid hB
 have q1 : (id != id) = false := by simp
 obtain ⟨R1, R2, z⟩ := two_rows11 w (.cells #[.int .i64 K, .int .i64 N, .float .f64 f, .slice ad n cap, .int .i64 id] 48) (.cells #[.int .i64 K, .int .i64 N, .float .f64 f, .slice bd n cp, .int .i64 id] 48)
 have HR1 := hid R1
 have HR2 := hid R2
 have HZ := hid z
 clear hB rk rk' R1 R2 z
 go_enter Tryz.func105, Tryz.ntmps105
 go_wp2_with fail
 refine (eqItem K N f f cap cp hf hf (hid (Same.refl f)) H1.out H2.out hn).mono ?_
 rintro e w2 ⟨rfl, b⟩
 have hz := HZ.out
 have t1 := (b.block w.heap.size (by omega)).trans HR1.out
 have t2 := (b.block (w.heap.size + 1) (by omega)).trans HR2.out
 have c1 : w2.cell? ⟨w.heap.size, 4, none⟩ = some (.int .i64 id) := qC t1
 have c2 : w2.cell? ⟨w.heap.size + 1, 4, none⟩ = some (.int .i64 id) := qC t2
 replace HB := hid (HB.out.trans (b.mono HB.out.size))
 clear b t1 t2 hz HZ HR1 HR2
 go_wp2_with fail
 go_ret
 exact ⟨rfl, HB.out⟩
end Go.Proofs.YtlkoghdajpbffaaGreat
