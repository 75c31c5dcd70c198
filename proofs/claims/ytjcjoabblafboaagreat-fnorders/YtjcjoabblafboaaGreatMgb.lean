/- Texts of this proof in one: Ea13 Ic Ar Pt Eb13 Ni Nk9 Nm9 Ec13 Ed13 Isp Tq Ei13 Ej13. -/
import Derived.Test.YtjcjoabblafboaaGreatMga
import Derived.Deep.MidRow
import Derived.Laws.CopyOwn
import Derived.Laws.Tables
import Derived.Deep.RegionHeld3
import Derived.Deep.SlicePairs
import Derived.Deep.Matrix
import Derived.Lib.SmallJoins
/- Lists of items, and of spans (two items each), plain and in memory: read, and where their memory is the call's own. No statement of its own; no conditions. -/




namespace Go.Proofs.YtjcjoabblafboaaGreat
open Go.RowKit
set_option maxRecDepth 100000
structure Im where
 K : Int
 N : Int
 F : Nat
 Z : List Int
def im0 : Im := ⟨0, 0, 0, []⟩
def textsI (es : List Im) : List (List Int) := es.map (·.Z)
theorem textsI_len (es : List Im) : (textsI es).length = es.length := by simp [textsI]
theorem textsI_at (es : List Im) (i : Nat) : (textsI es).getD i [] = (es.getD i im0).Z := by
 by_cases h : i < es.length
 · simp [textsI, List.getD, h]
 · simp [textsI, List.getD, List.getElem?_eq_none (Nat.le_of_not_lt h), im0]
def cellsI1 (e : Im) (x : Value) : List Value := [.int .i64 e.K, .int .i64 e.N, .float .f64 e.F, x]
def cellsI : List Im → List Value → List Value
 | e :: es, x :: xs => cellsI1 e x ++ cellsI es xs
 | _, _ => []
theorem cellsI_cons (e : Im) (es : List Im) (x : Value) (xs : List Value) : cellsI (e :: es) (x :: xs) = cellsI1 e x ++ cellsI es xs := by rw [cellsI]
theorem cellsI_app : ∀ (es fs : List Im) (xs ys : List Value), xs.length = es.length → cellsI (es ++ fs) (xs ++ ys) = cellsI es xs ++ cellsI fs ys
 | [], fs, [], ys, _ => rfl
 | e :: es, fs, x :: xs, ys, h => by
  rw [List.cons_append, List.cons_append, cellsI_cons, cellsI_app es fs xs ys (by simpa using h), cellsI_cons, List.append_assoc]
theorem cellsI_at : ∀ (es : List Im) (xs : List Value) (i j : Nat), xs.length = es.length → i < es.length → j < 4 → (cellsI es xs)[i * 4 + j]? = (cellsI1 (es.getD i im0) (xs.getD i nilS))[j]?
 | e :: es, x :: xs, 0, j, _, _, hj => by
  rw [cellsI_cons, Nat.zero_mul, Nat.zero_add, List.getElem?_append_left (by simp [cellsI1]; omega)]
  rfl
 | e :: es, x :: xs, i + 1, j, h, hi, hj => by
  have ih := cellsI_at es xs i j (by simpa using h) (by simpa using hi) hj
  rw [cellsI_cons, List.getElem?_append_right (by simp [cellsI1]; omega), List.getD_cons_succ, List.getD_cons_succ, ← ih]
  congr 1
  simp [cellsI1]; omega
structure Box4 (w : World) (b o : Nat) (K N : Int) (f : Nat) (x : Value) : Prop where
 c0 : w.cell? ⟨b, o, none⟩ = some (.int .i64 K)
 c1 : w.cell? ⟨b, o + 1, none⟩ = some (.int .i64 N)
 c2 : w.cell? ⟨b, o + 2, none⟩ = some (.float .f64 f)
 c3 : w.cell? ⟨b, o + 3, none⟩ = some x
theorem Box4.lt {w : World} {b o : Nat} {K N : Int} {f : Nat} {x : Value} (q : Box4 w b o K N f x) : b < w.heap.size := World.block_lt_of_cell? w _ q.c0
theorem Box4.agree {w w' : World} {b o : Nat} {K N : Int} {f : Nat} {x : Value} (q : Box4 w b o K N f x) (e : w'.heap[b]? = w.heap[b]?) : Box4 w' b o K N f x :=
 ⟨(World.cell?_of_block (w := w) (a := ⟨b, o, none⟩) e).trans q.c0, (World.cell?_of_block (w := w) (a := ⟨b, o + 1, none⟩) e).trans q.c1, (World.cell?_of_block (w := w) (a := ⟨b, o + 2, none⟩) e).trans q.c2, (World.cell?_of_block (w := w) (a := ⟨b, o + 3, none⟩) e).trans q.c3⟩
theorem Box4.below {w w' : World} {b o : Nat} {K N : Int} {f : Nat} {x : Value} (q : Box4 w b o K N f x) {B0 : Nat} (hb : Below B0 w w') (hB : w.heap.size ≤ B0) : Box4 w' b o K N f x :=
 q.agree (hb.block b (Nat.lt_of_lt_of_le q.lt hB))
structure ReadsM (w : World) (ad : Option Addr) (es : List Im) : Prop where
 cells : es.length = 0 ∨ ∃ b off, ad = some ⟨b, off, none⟩ ∧ ∀ i, i < es.length → ∃ x, Box4 w b (off + i * 4) (es.getD i im0).K (es.getD i im0).N (es.getD i im0).F x ∧ Row w x (es.getD i im0).Z ∧ (es.getD i im0).F < 18446744073709551616
theorem ReadsM.below {w w' : World} {ad : Option Addr} {es : List Im} (h : ReadsM w ad es) {B : Nat} (hb : Below B w w') (hB : w.heap.size ≤ B) : ReadsM w' ad es := by
 refine ⟨?_⟩
 rcases h.cells with h0 | ⟨b, off, rfl, hc⟩
 · exact .inl h0
 · refine .inr ⟨b, off, rfl, fun i hi => ?_⟩
   obtain ⟨x, h1, h2, h3⟩ := hc i hi
   exact ⟨x, h1.below hb hB, h2.below hb hB, h3⟩
theorem ReadsM.at {w : World} {ad : Option Addr} {es : List Im} (h : ReadsM w ad es) {k : Nat} (hk : k < es.length) : ∃ b off a c, ad = some ⟨b, off, none⟩ ∧ Box4 w b (off + k * 4) (es.getD k im0).K (es.getD k im0).N (es.getD k im0).F (.slice a (es.getD k im0).Z.length c) ∧ Reads w a (es.getD k im0).Z.length (es.getD k im0).Z ∧ (a = none → c = 0) ∧ (es.getD k im0).Z.length ≤ maxLen ∧ (es.getD k im0).F < 18446744073709551616 := by
 rcases h.cells with h0 | ⟨b, off, rfl, hc⟩
 · omega
 · obtain ⟨x, h1, ⟨a, c, rfl, h2, h3, h4⟩, h5⟩ := hc k hk
   exact ⟨b, off, a, c, rfl, h1, h2, h3, h4, h5⟩
theorem ReadsM.fl {w : World} {ad : Option Addr} {es : List Im} (h : ReadsM w ad es) (i : Nat) : (es.getD i im0).F < 18446744073709551616 := by
 by_cases hc : i < es.length
 · obtain ⟨_, _, _, _, _, _, _, _, _, hf⟩ := h.at (k := i) hc
   exact hf
 · rw [List.getD_eq_getElem?_getD, List.getElem?_eq_none (by omega)]; simp [im0]
structure OwnM (t : TypeId) (s : Nat) (w : World) (lo hi : Nat) (v : Value) (n : Nat) (es : List Im) : Prop where
 own : ∃ xs : List Value, w.ownsRow lo t s v n (cellsI es xs) ∧ Bands w lo hi xs (textsI es)
 top : ∀ g, v.ownBlock = some g → g < hi
 fl : ∀ i, (es.getD i im0).F < 18446744073709551616
 len : es.length * 4 = n * s
section
variable {t : TypeId} {s : Nat} {w w' : World} {lo hi : Nat} {v : Value} {n : Nat} {es : List Im}
theorem OwnM.slice (h : OwnM t s w lo hi v n es) : ∃ a c, v = .slice a n c := by
 obtain ⟨xs, o, _⟩ := h.own
 exact own_sl o
theorem OwnM.rd {a : Option Addr} {n' c : Nat} (h : OwnM t s w lo hi (.slice a n' c) n es) : ReadsM w a es := by
 obtain ⟨xs, o, hB⟩ := h.own
 have hxl : xs.length = es.length := by rw [hB.len, textsI_len]
 have hl := h.len
 rcases o.2 with ⟨e, h0⟩ | ⟨g, cap, cur, e, _⟩
 · cases e
   subst h0
   exact ⟨.inl (by omega)⟩
 · cases e
   refine ⟨.inr ⟨g, 0, rfl, fun i hi => ⟨xs.getD i nilS, ?_, ?_, h.fl i⟩⟩⟩
   · have hc := fun j (hj : j < 4) => (o.cellAt (i * 4 + j) (by omega)).trans (cellsI_at es xs i j hxl hi hj)
     rw [Nat.zero_add]
     exact ⟨hc 0 (by omega), hc 1 (by omega), hc 2 (by omega), hc 3 (by omega)⟩
   · have := hB.row i; rw [textsI_at] at this; exact this
end
def fl2 : List (Im × Im) → List Im
 | [] => []
 | p :: ps => p.1 :: p.2 :: fl2 ps
theorem fl2_len : ∀ l : List (Im × Im), (fl2 l).length = l.length * 2
 | [] => rfl
 | p :: ps => by simp [fl2, fl2_len ps]; omega
theorem fl2_app : ∀ a b : List (Im × Im), fl2 (a ++ b) = fl2 a ++ fl2 b
 | [], b => rfl
 | p :: a, b => by simp [fl2, fl2_app a b]
def sp0 : Im × Im := (im0, im0)
theorem fl2_at : ∀ (l : List (Im × Im)) (i : Nat), (fl2 l).getD (i * 2) im0 = (l.getD i sp0).1 ∧ (fl2 l).getD (i * 2 + 1) im0 = (l.getD i sp0).2
 | [], i => by simp [fl2, sp0]
 | p :: l, 0 => by simp [fl2]
 | p :: l, i + 1 => by
  have ih := fl2_at l i
  rw [show (i + 1) * 2 = i * 2 + 1 + 1 by omega]
  simp only [fl2, List.getD_cons_succ]
  exact ih
end Go.Proofs.YtjcjoabblafboaaGreat
/- The contract of the specification's l3copy. Conditions: texts of at most 2^21 bytes. -/

namespace Go.Proofs.YtjcjoabblafboaaGreat
open Go.RowKit
theorem three_first (w : World) (a b c : Obj) : (((w.alloc a).alloc b).alloc c).heap[w.heap.size]? = some a := by
 have h1 := alloc_size w a
 have h2 := alloc_size (w.alloc a) b
 rw [alloc_old _ _ _ (by omega), alloc_old _ _ _ (by omega)]
 exact heap_alloc_new w a
set_option maxRecDepth 100000 in
set_option maxHeartbeats 3200000 in
theorem spec_l3copy (K N : Int) (f : Nat) {ad : Option Addr} {n : Nat} (cap : Nat) (hnil : ad = none → cap = 0) {zs : List Int} {w : World} (h : Reads w ad n zs) (hn : n ≤ 2097152) :
 Calls Tryz.prog 130 #[.agg #[.int .i64 K, .int .i64 N, .float .f64 f, .slice ad n cap]] w fun e w' => ∃ v, e = .returned (.agg #[.int .i64 K, .int .i64 N, .float .f64 f, v]) ∧ w'.ownsRow w.heap.size 5 1 v n (bys zs) ∧ Below w.heap.size w w' := by
 obtain ⟨i0, hi, hz0, hz1, hz2⟩ := info_parts Tryz.info5
 have hl := h.len
 have hbd := h.bd
 have hst := fun w a m => run_store Tryz.prog w a (.float .f64 f) m rfl
 obtain ⟨z, R1, R2, bW⟩ := three w (.cells #[.int .i64 K, .int .i64 N, .float .f64 f, .slice ad n cap] 72) (.cells #[.int .i64 0, .int .i64 0, .float .f64 0, .slice none 0 0] 72) (.cells #[] 5)
 have R0 := three_first w (.cells #[.int .i64 K, .int .i64 N, .float .f64 f, .slice ad n cap] 72) (.cells #[.int .i64 0, .int .i64 0, .float .f64 0, .slice none 0 0] 72) (.cells #[] 5)
 have z2 := alloc_size (w.alloc (.cells #[.int .i64 K, .int .i64 N, .float .f64 f, .slice ad n cap] 72)) (.cells #[.int .i64 0, .int .i64 0, .float .f64 0, .slice none 0 0] 72)
 have z1 := alloc_size w (.cells #[.int .i64 K, .int .i64 N, .float .f64 f, .slice ad n cap] 72)
 rw [z1] at z2
 have o5 := World.ownsRow_lit (base := w.heap.size + 1 + 1) (e := 5) (size := 1) ((w.alloc (.cells #[.int .i64 K, .int .i64 N, .float .f64 f, .slice ad n cap] 72)).alloc (.cells #[.int .i64 0, .int .i64 0, .float .f64 0, .slice none 0 0] 72)) #[] 0 (by omega) (Nat.zero_le _) rfl
 rw [z2] at o5
 have r2 := h.below bW (Nat.le_refl _)
 have O5 := hid o5
 have H0 := hid R0
 have H1 := hid R1
 have HB := hid bW
 have HZ := hid z
 have HR := hid r2
 clear o5 R0 R1 R2 bW z z2 r2 z1
 rcases hc : ad with _ | a
 · subst hc
   obtain rfl := hnil rfl
   obtain rfl : n = 0 := by
    rcases h.cells with h0 | ⟨b, off, e, _⟩
    · exact h0
    · cases e
   obtain rfl : zs = [] := List.eq_nil_of_length_eq_zero hl
   clear h
   go_enter Tryz.func130, Tryz.ntmps130
   go_wp2_with (at_builtin; refine wpList_append_own_none rfl _ _ 22 rfl (w.heap.size + 1 + 1) 5 i0 1 Tryz.underlying22 hi _ _ _ rfl O5.out rfl ?_)
   obtain ⟨_, Q1, _, bQ⟩ := three w (.cells #[.int .i64 K, .int .i64 N, .float .f64 f, .slice (some ⟨w.heap.size + 1 + 1, 0, none⟩) 0 0] 72) (.cells #[.int .i64 K, .int .i64 N, .float .f64 f, .slice (some ⟨w.heap.size + 1 + 1, 0, none⟩) 0 0] 72) (.cells #[] 5)
   have y1 := alloc_size w (.cells #[.int .i64 K, .int .i64 N, .float .f64 f, .slice (some ⟨w.heap.size + 1 + 1, 0, none⟩) 0 0] 72)
   have y2 := alloc_size (w.alloc (.cells #[.int .i64 K, .int .i64 N, .float .f64 f, .slice (some ⟨w.heap.size + 1 + 1, 0, none⟩) 0 0] 72)) (.cells #[.int .i64 K, .int .i64 N, .float .f64 f, .slice (some ⟨w.heap.size + 1 + 1, 0, none⟩) 0 0] 72)
   rw [y1] at y2
   have oQ := World.ownsRow_lit (base := w.heap.size) (e := 5) (size := 1) ((w.alloc (.cells #[.int .i64 K, .int .i64 N, .float .f64 f, .slice (some ⟨w.heap.size + 1 + 1, 0, none⟩) 0 0] 72)).alloc (.cells #[.int .i64 K, .int .i64 N, .float .f64 f, .slice (some ⟨w.heap.size + 1 + 1, 0, none⟩) 0 0] 72)) #[] 0 (by omega) (Nat.zero_le _) rfl
   rw [y2] at oQ
   exact bodyPost_ret (results_cell_row Tryz.results130 _ _ (w.heap.size + 1) 72 _ (0, 0) _ rfl Q1 Tryz.underlying72 rfl size72) rfl ⟨_, rfl, oQ, bQ⟩
 · subst hc
   clear h
   go_enter Tryz.func130, Tryz.ntmps130
   go_wp2_with (at_builtin; refine wpList_append_own _ rfl _ _ 22 rfl (w.heap.size + 1 + 1) 5 i0 (.int .u8 0) 1 1 Tryz.underlying22 hi hz0 hz1 hz2 rfl (by decide) _ _ _ rfl O5.out a n cap (bys zs) rfl ?k2 HR.out.news (bys_one _) ?k4 ?k5 ?k6 ?_)
   case k2 => simp [bys_length, hl]
   case k4 => unfold maxLen; omega
   case k5 => omega
   intro v7 w7 o7 g7 _
   have o8 : w7.ownsRow (w.heap.size + 1 + 1) 5 1 v7 n (bys zs) := by simpa using o7
   obtain ⟨ad7, cap7, rfl, r7, d7⟩ := Reads.own o8 hbd
   have zW := HZ.out
   have B7 : Below w.heap.size w w7 := HB.out.grown g7 (by omega) (fun k hk => by have := (O5.out.lt k hk).1; omega)
   have S0 : w7.heap[w.heap.size]? = _ := (g7.block _ (by omega) (fun e => by have := (O5.out.lt _ e.symm).1; omega)).trans H0.out
   have S1 : w7.heap[w.heap.size + 1]? = _ := (g7.block _ (by omega) (fun e => by have := (O5.out.lt _ e.symm).1; omega)).trans H1.out
   have c3 : w7.cell? ⟨w.heap.size, 3, none⟩ = some (.slice (some a) n cap) := by rw [cell_of_row _ _ _ _ _ _ S0]; rfl
   have fz : w7.frozen? ⟨w.heap.size, 3, none⟩ = false := frozen_of_row _ _ _ _ _ S0
   have T0 := hid (heap_setCell_same w7 w.heap.size 3 _ 72 (.slice ad7 n cap7) S0)
   have T1 := hid ((heap_setCell_other w7 ⟨w.heap.size, 3, none⟩ (w.heap.size + 1) (.slice ad7 n cap7) (by simp)).trans S1)
   have BC := hid (B7.setCell (p := ⟨w.heap.size, 3, none⟩) (by simp) (.slice ad7 n cap7))
   have O7 := hid o8
   clear S0 S1 g7 o7 o8 r7 d7 zW B7 O5 H0 H1 HB HZ HR
   go_wp2_with (first
    | (refine wpList_load_row rfl 72 (.tmp 1) rfl w.heap.size rfl 72 _ (0, 0) _ T0.out Tryz.underlying72 rfl size72 ?_)
    | (refine wpList_store_row rfl 72 (.tmp 2) (.tmp 8) rfl (w.heap.size + 1) #[.int .i64 K, .int .i64 N, .float .f64 f, .slice ad7 n cap7] rfl rfl 72 _ T1.out ?s1 ?s2 ?s3 ?_))
   case s1 => exact size72
   case s2 => rfl
   case s3 => simp [Value.oneCell']
   refine bodyPost_ret (results_cell_row Tryz.results130 _ _ (w.heap.size + 1) 72 #[.int .i64 K, .int .i64 N, .float .f64 f, .slice ad7 n cap7] (0, 0) _ rfl (setRow_heap _ _ _ _ _ _ T1.out) Tryz.underlying72 rfl size72) rfl ⟨.slice ad7 n cap7, rfl, owns_base (owns_at O7.out fun k hk => ?_) (by omega), below_setRow BC.out (by omega) _⟩
   rw [setRow_other _ _ _ _ (by omega), heap_setCell_other _ _ _ _ (by simp; omega)]
end Go.Proofs.YtjcjoabblafboaaGreat
/- An item in a block of its own, and its text. -/

namespace Go.Proofs.YtjcjoabblafboaaGreat
open Go.RowKit
structure Arg (w : World) (g : Nat) (K N : Int) (f : Nat) (ad : Option Addr) (n cap : Nat) (zs : List Int) : Prop where
 box : Box w g K N f ad n cap
 reads : Reads w ad n zs
 lt : g < w.heap.size
theorem Arg.below {w w' : World} {g : Nat} {K N : Int} {f : Nat} {ad : Option Addr} {n cap : Nat} {zs : List Int} (a : Arg w g K N f ad n cap zs) {B : Nat} (h : Below B w w') (hB : w.heap.size ≤ B) : Arg w' g K N f ad n cap zs :=
 ⟨a.box.below h (Nat.lt_of_lt_of_le a.lt hB), a.reads.below h hB, Nat.lt_of_lt_of_le a.lt h.size⟩
theorem Arg.alloc {w : World} {g : Nat} {K N : Int} {f : Nat} {ad : Option Addr} {n cap : Nat} {zs : List Int} (a : Arg w g K N f ad n cap zs) (o : Obj) : Arg (w.alloc o) g K N f ad n cap zs :=
 a.below ((Below.refl w.heap.size w).alloc (Nat.le_refl _) o) (Nat.le_refl _)
theorem Reads.alloc {w : World} {ad : Option Addr} {n : Nat} {zs : List Int} (h : Reads w ad n zs) (o : Obj) : Reads (w.alloc o) ad n zs :=
 h.below ((Below.refl w.heap.size w).alloc (Nat.le_refl _) o) (Nat.le_refl _)
theorem Arg.new {w : World} (K N : Int) (f : Nat) {ad : Option Addr} {n : Nat} (cap : Nat) {zs : List Int} (h : Reads w ad n zs) (t : TypeId) (g : Nat) (hg : g = w.heap.size) : Arg (w.alloc (.cells #[.int .i64 K, .int .i64 N, .float .f64 f, .slice ad n cap] t)) g K N f ad n cap zs := by
 subst hg
 exact ⟨Box.new w K N f ad n cap t, h.alloc _, by rw [alloc_size]; omega⟩
end Go.Proofs.YtjcjoabblafboaaGreat
/- A store of several cells into a part of a row. No statement of its own; no conditions. -/


namespace Go.Proofs.YtjcjoabblafboaaGreat
open Go.RowKit
def putAt (cs : Array Value) : Nat → List Value → Array Value
 | _, [] => cs
 | o, v :: r => putAt (cs.setIfInBounds o v) (o + 1) r
theorem setCells_row {g : Nat} {t : TypeId} : ∀ (vs : List Value) (o : Nat) (w : World) (cs : Array Value), w.heap[g]? = some (.cells cs t (0, 0)) → w.setCells g o vs = w.setRow g (putAt cs o vs)
 | [], _, w, cs, h => (setRow_self w g cs t (0, 0) h).symm
 | v :: r, o, w, cs, h => by
  show (w.setCell ⟨g, o, none⟩ v).setCells g (o + 1) r = w.setRow g (putAt (cs.setIfInBounds o v) (o + 1) r)
  rw [setCell_eq_setRow w g o cs t (0, 0) v h, setCells_row r (o + 1) _ _ (setRow_heap w g cs _ t _ h), setRow_setRow]
theorem there_row {w : World} {g o k : Nat} {cs : Array Value} {t : TypeId} (h : w.heap[g]? = some (.cells cs t (0, 0))) (hk : o + k ≤ cs.size) : w.there g o k := by
 intro j hj
 refine ⟨?_, frozen_of_row _ _ _ _ _ h⟩
 rw [cell_of_row _ _ _ _ _ _ h, Array.getElem?_eq_getElem (by omega)]
 rfl
theorem wp_store_part {P : Program} {op : Oper} {a : Act} {w : World} {K : Act → World → Prop} {Q : Exit → Act → World → Prop} (ty : TypeId) (x y : Operand) (ho : op.op = .store ty x y)
 (g o : Nat) (cells : Array Value) (hx : a.eval x = .pointer (some ⟨g, o, none⟩)) (hy : a.eval y = .agg cells)
 (t : TypeId) (old : Array Value) (hg : w.heap[g]? = some (.cells old t (0, 0))) (hi : (P.info? ty).map (·.size) = some cells.size)
 (hold : o + cells.size ≤ old.size) (h1 : cells.all (·.oneCell') = true) (new : Array Value) (hnew : putAt old o cells.toList = new)
 (h : K (a.put op.dst undef) (w.setRow g new)) : op.wp P a w K Q := by
 subst hnew
 refine wp_store_mid ty x y ho g o cells hx hy (there_row hg hold) hi h1 ?_
 rw [setCells_row cells.toList o w old hg]
 exact h
theorem wpList_store_part {P : Program} {ops : Array Oper} {rest : List Oper} {op : Oper} {a : Act} {w : World} {Q : Exit → Act → World → Prop} (hgd : op.guard = none) (ty : TypeId) (x y : Operand) (ho : op.op = .store ty x y)
 (g o : Nat) (cells : Array Value) (hx : a.eval x = .pointer (some ⟨g, o, none⟩)) (hy : a.eval y = .agg cells)
 (t : TypeId) (old : Array Value) (hg : w.heap[g]? = some (.cells old t (0, 0))) (hi : (P.info? ty).map (·.size) = some cells.size)
 (hold : o + cells.size ≤ old.size) (h1 : cells.all (·.oneCell') = true) (new : Array Value) (hnew : putAt old o cells.toList = new)
 (h : wpList P ops Q rest (a.put op.dst undef) (w.setRow g new)) : wpList P ops Q (op :: rest) a w :=
 wpList_plain hgd fun _ hK => wp_store_part ty x y ho g o cells hx hy t old hg hi hold h1 new hnew (hK _ _ h)
end Go.Proofs.YtjcjoabblafboaaGreat
/- The contracts of the laws' toSpan, szSpan, eqSpan. Conditions: items of at most 2^21 bytes. -/









namespace Go.Proofs.YtjcjoabblafboaaGreat
open Go.RowKit
set_option maxRecDepth 100000
theorem row_grown13 (u : World) (q : Nat) (R : Array Value) : u.grownBy (u.setRow q R) (some q) := ⟨rfl, rfl, rfl, by simp, fun i _ hne => setRow_other _ _ _ _ (fun e => hne (by rw [e]))⟩
theorem two_rows13 (w : World) (a b : Obj) : ((w.alloc a).alloc b).heap[w.heap.size]? = some a ∧ ((w.alloc a).alloc b).heap[w.heap.size + 1]? = some b ∧ ((w.alloc a).alloc b).heap.size = w.heap.size + 2 := by
 have z1 := alloc_size w a
 have z2 := alloc_size (w.alloc a) b
 refine ⟨?_, ?_, by omega⟩
 · rw [heap_alloc_old _ _ (by omega)]; exact heap_alloc_new w a
 · have := heap_alloc_new (w.alloc a) b
   rwa [z1] at this
theorem Tryz.infoSp : (Tryz.prog.info? 74).map (fun i => (i.zero, i.size, i.bytes)) = some (some (.agg #[.int .i64 0, .int .i64 0, .float .f64 0, .slice none 0 0, .int .i64 0, .int .i64 0, .float .f64 0, .slice none 0 0]), 8, 96) := by kernel_rfl
theorem size_sp : (Tryz.prog.info? 74).map (·.size) = some 8 := by kernel_rfl
theorem size_it13 : (Tryz.prog.info? 72).map (·.size) = some 4 := by kernel_rfl
end Go.Proofs.YtjcjoabblafboaaGreat
/- Slices of whole numbers: what they read as; the contracts of the laws' toIntS, eqIntS, markIntS, heldIntS. Conditions: at most 2^21 of them. -/

namespace Go.Proofs.YtjcjoabblafboaaGreat
open Go.RowKit
set_option maxRecDepth 100000
def ins (zs : List Int) : List Value := zs.map (Value.int .i64)
theorem ins_length (zs : List Int) : (ins zs).length = zs.length := by simp [ins]
structure ReadsI (w : World) (ad : Option Addr) (n : Nat) (zs : List Int) : Prop where
 len : zs.length = n
 cells : n = 0 ∨ ∃ b off, ad = some ⟨b, off, none⟩ ∧ ∀ i, i < n → w.cell? ⟨b, off + i, none⟩ = some (.int .i64 (zs.getD i 0))
 bd : ∀ i, -9223372036854775808 ≤ zs.getD i 0 ∧ zs.getD i 0 ≤ 9223372036854775807
theorem ReadsI.below {w w' : World} {ad : Option Addr} {n : Nat} {zs : List Int} (h : ReadsI w ad n zs) {B : Nat} (hb : Below B w w') (hB : w.heap.size ≤ B) : ReadsI w' ad n zs := by
 refine ⟨h.len, ?_, h.bd⟩
 rcases h.cells with h0 | ⟨b, off, rfl, hc⟩
 · exact .inl h0
 · refine .inr ⟨b, off, rfl, fun i hi => ?_⟩
   have hc' := hc i hi
   have := World.block_lt_of_cell? w _ hc'
   rw [hb.cell (p := ⟨b, off + i, none⟩) (by simp at this ⊢; omega)]
   exact hc'
theorem ReadsI.own {w : World} {base : Nat} {v : Value} {n : Nat} {zs : List Int} (h : w.ownsRow base 3 1 v n (ins zs)) (hbd : ∀ i, -9223372036854775808 ≤ zs.getD i 0 ∧ zs.getD i 0 ≤ 9223372036854775807) :
 ∃ ad cap, v = .slice ad n cap ∧ ReadsI w ad n zs ∧ (ad = none ∨ ∃ g, ad = some ⟨g, 0, none⟩ ∧ base ≤ g ∧ g < w.heap.size) := by
 have hl : zs.length = n := by have := h.1; simpa [ins] using this
 rcases h.2 with ⟨rfl, rfl⟩ | ⟨g, cap, cur, rfl, hb, hg, hnc, hcm, hcs, htake⟩
 · exact ⟨none, 0, rfl, ⟨hl, .inl rfl, hbd⟩, .inl rfl⟩
 · refine ⟨_, cap, rfl, ⟨hl, .inr ⟨g, 0, rfl, fun i hi => ?_⟩, hbd⟩, .inr ⟨g, rfl, hb, (Array.getElem?_eq_some_iff.1 hg).1⟩⟩
   rw [Nat.zero_add, h.cellAt i (by omega)]
   simp [ins, hl, hi]
theorem ins_append (a b : List Int) : ins (a ++ b) = ins a ++ ins b := by simp [ins]
theorem ins_one (zs : List Int) : ∀ u ∈ ins zs, u.oneCell' = true := by
 intro u hu
 simp only [ins, List.mem_map] at hu
 obtain ⟨x, _, rfl⟩ := hu
 rfl
theorem getD_ins (zs : List Int) (i : Nat) : (ins zs)[i]? = (zs[i]?).map (Value.int .i64) := by simp [ins]
theorem Tryz.infoI : (Tryz.prog.info? 3).map (fun i => (i.zero, i.size, i.bytes)) = some (some (.int .i64 0), 1, 8) := by kernel_rfl
end Go.Proofs.YtjcjoabblafboaaGreat
/- Rows of whole numbers, apart from each other. No statement of its own; no conditions. -/


namespace Go.Proofs.YtjcjoabblafboaaGreat
open Go.RowKit
set_option maxRecDepth 100000
def RowI (w : World) (v : Value) (zs : List Int) : Prop := ∃ a c, v = .slice a zs.length c ∧ ReadsI w a zs.length zs ∧ (a = none → c = 0) ∧ zs.length ≤ maxLen
theorem RowI.own {w : World} {base : Nat} {v : Value} {n : Nat} {zs : List Int} (h : w.ownsRow base 3 1 v n (ins zs)) (hbd : ∀ i, -9223372036854775808 ≤ zs.getD i 0 ∧ zs.getD i 0 ≤ 9223372036854775807) : RowI w v zs := by
 have hl : zs.length = n := by have := h.1; simpa [ins] using this
 obtain ⟨a, c, rfl, r, d⟩ := ReadsI.own h hbd
 subst hl
 refine ⟨a, c, rfl, r, ?_, ?_⟩
 · intro ha; subst ha
   rcases h.2 with ⟨h1, _⟩ | ⟨g, cap, cur, h1, _⟩
   · exact (Value.slice.inj h1).2.2
   · exact absurd (Value.slice.inj h1).1 (by simp)
 · rcases h.2 with ⟨_, h1⟩ | ⟨g, cap, cur, _, _, _, h1, h2, _⟩
   · rw [h1]; exact Nat.zero_le _
   · exact Nat.le_trans h1 h2
structure BandsI (w : World) (lo hi : Nat) (xs : List Value) (ss : List (List Int)) : Prop where
 len : xs.length = ss.length
 own : ∀ i, w.ownsRow lo 3 1 (xs.getD i nilS) (ss.getD i []).length (ins (ss.getD i []))
 top : ∀ x ∈ xs, ∀ g, x.ownBlock = some g → g < hi
 apart : xs.Pairwise Apart
 bd : ∀ i j, -9223372036854775808 ≤ (ss.getD i []).getD j 0 ∧ (ss.getD i []).getD j 0 ≤ 9223372036854775807
theorem BandsI.inr {w : World} {lo hi : Nat} {xs : List Value} {ss : List (List Int)} (h : BandsI w lo hi xs ss) (i : Nat) : ∀ g, (xs.getD i nilS).ownBlock = some g → lo ≤ g ∧ g < hi := by
 intro g hg
 refine ⟨((h.own i).lt g hg).1, ?_⟩
 rcases getD_mem_or xs i nilS with e | e
 · rw [e] at hg; cases hg
 · exact h.top _ e g hg
theorem BandsI.row {w : World} {lo hi : Nat} {xs : List Value} {ss : List (List Int)} (h : BandsI w lo hi xs ss) (i : Nat) : RowI w (xs.getD i nilS) (ss.getD i []) := RowI.own (h.own i) (h.bd i)
end Go.Proofs.YtjcjoabblafboaaGreat
/- A slice of snapshots: what it reads as, its cells. No statement of its own; no conditions. -/

namespace Go.Proofs.YtjcjoabblafboaaGreat
open Go.RowKit
set_option maxRecDepth 100000
end Go.Proofs.YtjcjoabblafboaaGreat
/- The contracts of the laws' toItemS, szItemS, eqItemS, toSpanS, szSpanS, eqSpanS. Conditions: items of at most 2^21 bytes together. -/


namespace Go.Proofs.YtjcjoabblafboaaGreat
open Go.RowKit
set_option maxRecDepth 100000
end Go.Proofs.YtjcjoabblafboaaGreat
/- Tracks, plain and in memory: read, and where their memory is the call's own, told by its blocks. No statement of its own; no conditions. -/

namespace Go.Proofs.YtjcjoabblafboaaGreat
open Go.RowKit
set_option maxRecDepth 100000
structure Keeps (X : Nat → Prop) (w w' : World) : Prop where
 os : w'.os = w.os
 tape : w'.tape = w.tape
 output : w'.output = w.output
 size : w.heap.size ≤ w'.heap.size
 block : ∀ k, k < w.heap.size → ¬ X k → w'.heap[k]? = w.heap[k]?
theorem Keeps.refl (X : Nat → Prop) (w : World) : Keeps X w w := ⟨rfl, rfl, rfl, Nat.le_refl _, fun _ _ _ => rfl⟩
theorem Keeps.trans {X : Nat → Prop} {a b c : World} (h : Keeps X a b) (k : Keeps X b c) : Keeps X a c :=
 ⟨k.os.trans h.os, k.tape.trans h.tape, k.output.trans h.output, Nat.le_trans h.size k.size, fun i hi hx => (k.block i (Nat.lt_of_lt_of_le hi h.size) hx).trans (h.block i hi hx)⟩
theorem Keeps.set {X : Nat → Prop} (w : World) {p : Addr} (hp : X p.block) (u : Value) : Keeps X w (w.setCell p u) :=
 ⟨rfl, rfl, rfl, by simp [World.setCell], fun k _ hx => Below.heap_setCell _ _ _ _ (fun e => hx (e ▸ hp))⟩
theorem Keeps.of_below {X : Nat → Prop} {w w' : World} (h : Below w.heap.size w w') : Keeps X w w' := ⟨h.os, h.tape, h.output, h.size, fun k hk _ => h.block k hk⟩
def blkL (xs : List Value) (b : Nat) : Prop := ∃ x ∈ xs, x.ownBlock = some b
structure OwnX (t : TypeId) (s : Nat) (w : World) (lo hi : Nat) (v : Value) (n : Nat) (es : List Im) (xs : List Value) : Prop where
 row : w.ownsRow lo t s v n (cellsI es xs)
 txt : Bands w lo hi xs (textsI es)
 top : ∀ g, v.ownBlock = some g → g < hi
 fl : ∀ i, (es.getD i im0).F < 18446744073709551616
 len : es.length * 4 = n * s
def blkX (v : Value) (xs : List Value) (b : Nat) : Prop := v.ownBlock = some b ∨ blkL xs b
section
variable {t : TypeId} {s : Nat} {w w' : World} {lo hi : Nat} {v : Value} {n : Nat} {es : List Im} {xs : List Value}
theorem OwnM.x (h : OwnM t s w lo hi v n es) : ∃ xs, OwnX t s w lo hi v n es xs := by
 obtain ⟨xs, o, b⟩ := h.own
 exact ⟨xs, o, b, h.top, h.fl, h.len⟩
theorem OwnX.m (h : OwnX t s w lo hi v n es xs) : OwnM t s w lo hi v n es := ⟨⟨xs, h.row, h.txt⟩, h.top, h.fl, h.len⟩
theorem OwnX.rd {a : Option Addr} {n' c : Nat} (h : OwnX t s w lo hi (.slice a n' c) n es xs) : ReadsM w a es := h.m.rd
theorem OwnX.inr (h : OwnX t s w lo hi v n es xs) {b : Nat} (hb : blkX v xs b) : lo ≤ b ∧ b < hi := by
 rcases hb with hb | ⟨x, hx, hb⟩
 · exact ⟨(h.row.lt b hb).1, h.top b hb⟩
 · obtain ⟨i, hi', rfl⟩ := List.getElem_of_mem hx
   have := h.txt.inr i b (by simpa [List.getD, hi'] using hb)
   exact this
theorem OwnX.slice (h : OwnX t s w lo hi v n es xs) : ∃ a c, v = .slice a n c := own_sl h.row
theorem OwnX.max (h : OwnX t s w lo hi v n es xs) : n ≤ maxLen := by
 rcases h.row.2 with ⟨_, h1⟩ | ⟨g, cap, cur, _, _, _, h1, h2, _⟩
 · rw [h1]; exact Nat.zero_le _
 · exact Nat.le_trans h1 h2
end
structure Tk where
 xid : Int
 begun : Int
 ended : Int
 all : Bool
 rs : List (Im × Im)
 ws : List Im
 inn : Bool
 out : Bool
def tk0 : Tk := ⟨0, 0, 0, false, [], [], false, false⟩
structure Mt where
 y : Value
 X : List Value
 z : Value
 Y : List Value
def mt0 : Mt := ⟨nilS, [], nilS, []⟩
def blkT (m : Mt) (b : Nat) : Prop := blkX m.y m.X b ∨ blkX m.z m.Y b
structure OwnT1 (w : World) (lo hi : Nat) (m : Mt) (t : Tk) : Prop where
 rd : OwnX 74 8 w lo hi m.y t.rs.length (fl2 t.rs) m.X
 wr : OwnX 72 4 w lo hi m.z t.ws.length t.ws m.Y
 apart : ∀ b, blkL m.X b → ¬ blkL m.Y b
section
variable {w w' : World} {lo hi : Nat} {m : Mt} {t : Tk}
theorem OwnT1.inr (h : OwnT1 w lo hi m t) {b : Nat} (hb : blkT m b) : lo ≤ b ∧ b < hi := by
 rcases hb with hb | hb
 · exact h.rd.inr hb
 · exact h.wr.inr hb
theorem own_type {w : World} {base base' : Nat} {e e' : TypeId} {s s' n n' : Nat} {v v' : Value} {xs xs' : List Value} (h : w.ownsRow base e s v n xs) (h' : w.ownsRow base' e' s' v' n' xs') (hne : e ≠ e') {b : Nat} (hb : v.ownBlock = some b) (hb' : v'.ownBlock = some b) : False := by
 rcases owns_ne h h' hne with q | q
 · rw [q] at hb; cases hb
 · exact q (hb.trans hb'.symm)
theorem blk_txt {xs : List Value} {b : Nat} (hb : blkL xs b) : ∃ i, (xs.getD i nilS).ownBlock = some b := by
 obtain ⟨x, hx, hb⟩ := hb
 obtain ⟨i, hi', rfl⟩ := List.getElem_of_mem hx
 exact ⟨i, by simpa [List.getD, hi'] using hb⟩
theorem OwnT1.off (h : OwnT1 w lo hi m t) {base : Nat} {e : TypeId} {s n : Nat} {v : Value} {xs : List Value} (o : w.ownsRow base e s v n xs) (h1 : (74 : TypeId) ≠ e) (h2 : (72 : TypeId) ≠ e) (h5 : (5 : TypeId) ≠ e) {b : Nat} (hb : blkT m b) : v.ownBlock ≠ some b := by
 intro hv
 rcases hb with (hb | hb) | (hb | hb)
 · exact own_type h.rd.row o h1 hb hv
 · obtain ⟨i, hi'⟩ := blk_txt hb
   exact own_type (h.rd.txt.own i) o h5 hi' hv
 · exact own_type h.wr.row o h2 hb hv
 · obtain ⟨i, hi'⟩ := blk_txt hb
   exact own_type (h.wr.txt.own i) o h5 hi' hv
end
structure ReadsT (w : World) (ad : Option Addr) (ts : List Tk) : Prop where
 cells : ts.length = 0 ∨ ∃ b off, ad = some ⟨b, off, none⟩ ∧ ∀ i, i < ts.length → ∃ a c a' c', (w.cell? ⟨b, off + i * 8, none⟩ = some (.int .i64 (ts.getD i tk0).xid) ∧ w.cell? ⟨b, off + i * 8 + 1, none⟩ = some (.int .i64 (ts.getD i tk0).begun) ∧ w.cell? ⟨b, off + i * 8 + 2, none⟩ = some (.int .i64 (ts.getD i tk0).ended) ∧ w.cell? ⟨b, off + i * 8 + 3, none⟩ = some (.bool (ts.getD i tk0).all) ∧ w.cell? ⟨b, off + i * 8 + 4, none⟩ = some (.slice a (ts.getD i tk0).rs.length c) ∧ w.cell? ⟨b, off + i * 8 + 5, none⟩ = some (.slice a' (ts.getD i tk0).ws.length c') ∧ w.cell? ⟨b, off + i * 8 + 6, none⟩ = some (.bool (ts.getD i tk0).inn) ∧ w.cell? ⟨b, off + i * 8 + 7, none⟩ = some (.bool (ts.getD i tk0).out)) ∧ ReadsM w a (fl2 (ts.getD i tk0).rs) ∧ (ts.getD i tk0).rs.length ≤ maxLen ∧ ReadsM w a' (ts.getD i tk0).ws ∧ (ts.getD i tk0).ws.length ≤ maxLen
structure Box8 (w : World) (b o : Nat) (t : Tk) (x y : Value) : Prop where
 c0 : w.cell? ⟨b, o, none⟩ = some (.int .i64 t.xid)
 c1 : w.cell? ⟨b, o + 1, none⟩ = some (.int .i64 t.begun)
 c2 : w.cell? ⟨b, o + 2, none⟩ = some (.int .i64 t.ended)
 c3 : w.cell? ⟨b, o + 3, none⟩ = some (.bool t.all)
 c4 : w.cell? ⟨b, o + 4, none⟩ = some x
 c5 : w.cell? ⟨b, o + 5, none⟩ = some y
 c6 : w.cell? ⟨b, o + 6, none⟩ = some (.bool t.inn)
 c7 : w.cell? ⟨b, o + 7, none⟩ = some (.bool t.out)
theorem Box8.lt {w : World} {b o : Nat} {t : Tk} {x y : Value} (q : Box8 w b o t x y) : b < w.heap.size := World.block_lt_of_cell? w _ q.c0
theorem ReadsT.at {w : World} {ad : Option Addr} {ts : List Tk} (h : ReadsT w ad ts) {k : Nat} (hk : k < ts.length) : ∃ b off a c a' c', ad = some ⟨b, off, none⟩ ∧ Box8 w b (off + k * 8) (ts.getD k tk0) (.slice a (ts.getD k tk0).rs.length c) (.slice a' (ts.getD k tk0).ws.length c') ∧ ReadsM w a (fl2 (ts.getD k tk0).rs) ∧ (ts.getD k tk0).rs.length ≤ maxLen ∧ ReadsM w a' (ts.getD k tk0).ws ∧ (ts.getD k tk0).ws.length ≤ maxLen := by
 rcases h.cells with h0 | ⟨b, off, rfl, hc⟩
 · omega
 · obtain ⟨a, c, a', c', ⟨h0, h1, h2, h3, h4, h5, h6, h7⟩, r1, m1, r2, m2⟩ := hc k hk
   exact ⟨b, off, a, c, a', c', rfl, ⟨h0, h1, h2, h3, h4, h5, h6, h7⟩, r1, m1, r2, m2⟩
section
variable {w w' : World} {lo hi : Nat} {v : Value} {ts : List Tk}
end
end Go.Proofs.YtjcjoabblafboaaGreat
/- InSpan, the specification's and the program's. -/


namespace Go.Proofs.YtjcjoabblafboaaGreat
open Go.RowKit
def inSp (K1 N1 : Int) (f1 n1 : Nat) (zs1 : List Int) (K2 N2 : Int) (f2 n2 : Nat) (zs2 : List Int) (K3 N3 : Int) (f3 n3 : Nat) (zs3 : List Int) : Bool :=
 okK K1 N1 f1 n1 && okK K2 N2 f2 n2 && okK K3 N3 f3 n3 && decide (cmpI K1 N1 f1 n1 zs1 K3 N3 f3 n3 zs3 ≤ 0) && decide (cmpI K3 N3 f3 n3 zs3 K2 N2 f2 n2 zs2 ≤ 0)
set_option maxRecDepth 100000 in
set_option maxHeartbeats 6400000 in
theorem spec_InSpan (K1 N1 K2 N2 K3 N3 : Int) (f1 f2 f3 : Nat) {ad1 ad2 ad3 : Option Addr} {n1 n2 n3 : Nat} (cap1 cap2 cap3 : Nat) {zs1 zs2 zs3 : List Int} {w : World} (hf1 : f1 < 18446744073709551616) (hf2 : f2 < 18446744073709551616) (hf3 : f3 < 18446744073709551616)
 (r1 : Reads w ad1 n1 zs1) (r2 : Reads w ad2 n2 zs2) (r3 : Reads w ad3 n3 zs3) (hn1 : n1 ≤ 2097152) (hn2 : n2 ≤ 2097152) (hn3 : n3 ≤ 2097152) :
 Calls Tryz.prog 107 #[.agg #[.int .i64 K1, .int .i64 N1, .float .f64 f1, .slice ad1 n1 cap1], .agg #[.int .i64 K2, .int .i64 N2, .float .f64 f2, .slice ad2 n2 cap2], .agg #[.int .i64 K3, .int .i64 N3, .float .f64 f3, .slice ad3 n3 cap3]] w fun e w' => e = .returned (.bool (inSp K1 N1 f1 n1 zs1 K2 N2 f2 n2 zs2 K3 N3 f3 n3 zs3)) ∧ Below w.heap.size w w' := by
 have A1 : Arg (((w.alloc (.cells #[.int .i64 K1, .int .i64 N1, .float .f64 f1, .slice ad1 n1 cap1] 72)).alloc (.cells #[.int .i64 K2, .int .i64 N2, .float .f64 f2, .slice ad2 n2 cap2] 72)).alloc (.cells #[.int .i64 K3, .int .i64 N3, .float .f64 f3, .slice ad3 n3 cap3] 72)) (w.heap.size) K1 N1 f1 ad1 n1 cap1 zs1 := (((Arg.new K1 N1 f1 cap1 r1 72 (w.heap.size) (by simp)).alloc _).alloc _)
 have A2 : Arg (((w.alloc (.cells #[.int .i64 K1, .int .i64 N1, .float .f64 f1, .slice ad1 n1 cap1] 72)).alloc (.cells #[.int .i64 K2, .int .i64 N2, .float .f64 f2, .slice ad2 n2 cap2] 72)).alloc (.cells #[.int .i64 K3, .int .i64 N3, .float .f64 f3, .slice ad3 n3 cap3] 72)) (w.heap.size + 1) K2 N2 f2 ad2 n2 cap2 zs2 := ((Arg.new K2 N2 f2 cap2 (r2.alloc _) 72 (w.heap.size + 1) (by simp)).alloc _)
 have A3 : Arg (((w.alloc (.cells #[.int .i64 K1, .int .i64 N1, .float .f64 f1, .slice ad1 n1 cap1] 72)).alloc (.cells #[.int .i64 K2, .int .i64 N2, .float .f64 f2, .slice ad2 n2 cap2] 72)).alloc (.cells #[.int .i64 K3, .int .i64 N3, .float .f64 f3, .slice ad3 n3 cap3] 72)) (w.heap.size + 1 + 1) K3 N3 f3 ad3 n3 cap3 zs3 := (Arg.new K3 N3 f3 cap3 ((r3.alloc _).alloc _) 72 (w.heap.size + 1 + 1) (by simp))
 have B : Below w.heap.size w (((w.alloc (.cells #[.int .i64 K1, .int .i64 N1, .float .f64 f1, .slice ad1 n1 cap1] 72)).alloc (.cells #[.int .i64 K2, .int .i64 N2, .float .f64 f2, .slice ad2 n2 cap2] 72)).alloc (.cells #[.int .i64 K3, .int .i64 N3, .float .f64 f3, .slice ad3 n3 cap3] 72)) := (((Below.refl w.heap.size w).alloc (Nat.le_refl _) _).alloc (by simp) _).alloc (by simp; try omega) _
 have HA1 := hid A1
 clear A1 r1
 have HA2 := hid A2
 clear A2 r2
 have HA3 := hid A3
 clear A3 r3
 have HB := hid B
 clear B
 have e1 := spec_KeyOk K1 N1 f1 ad1 n1 cap1 hf1 hn1
 have e2 := spec_KeyOk K2 N2 f2 ad2 n2 cap2 hf2 hn2
 have e3 := spec_KeyOk K3 N3 f3 ad3 n3 cap3 hf3 hn3
 by_cases o1 : okK K1 N1 f1 n1 = true
 rotate_left
 · have o1' : okK K1 N1 f1 n1 = false := by simpa using o1
   rw [show inSp K1 N1 f1 n1 zs1 K2 N2 f2 n2 zs2 K3 N3 f3 n3 zs3 = false by rw [inSp, o1']; rfl]
   rw [o1'] at e1
   clear o1 o1'
   go_enter Tryz.func107, Tryz.ntmps107
   go_wp2_with fail
   refine (e1 _).mono ?_
   rintro e v0 ⟨rfl, b⟩
   have A1 := HA1.out.below b (Nat.le_refl _)
   have A2 := HA2.out.below b (Nat.le_refl _)
   have A3 := HA3.out.below b (Nat.le_refl _)
   have B := HB.out.trans (b.mono HB.out.size)
   clear HB b HA1 HA2 HA3
   have HA1 := hid A1
   have HA2 := hid A2
   have HA3 := hid A3
   have HB := hid B
   clear B
   clear A1 A2 A3
   go_wp2_with fail
   go_ret
   exact ⟨rfl, HB.out⟩
 by_cases o2 : okK K2 N2 f2 n2 = true
 rotate_left
 · have o2' : okK K2 N2 f2 n2 = false := by simpa using o2
   rw [show inSp K1 N1 f1 n1 zs1 K2 N2 f2 n2 zs2 K3 N3 f3 n3 zs3 = false by rw [inSp, o2', Bool.and_false]; rfl]
   rw [o1] at e1
   rw [o2'] at e2
   clear o1 o2 o2'
   go_enter Tryz.func107, Tryz.ntmps107
   go_wp2_with fail
   refine (e1 _).mono ?_
   rintro e v0 ⟨rfl, b⟩
   have A1 := HA1.out.below b (Nat.le_refl _)
   have A2 := HA2.out.below b (Nat.le_refl _)
   have A3 := HA3.out.below b (Nat.le_refl _)
   have B := HB.out.trans (b.mono HB.out.size)
   clear HB b HA1 HA2 HA3
   have HA1 := hid A1
   have HA2 := hid A2
   have HA3 := hid A3
   have HB := hid B
   clear B
   obtain ⟨c20, c21, c22, c23⟩ := A2.box
   clear A1 A2 A3
   go_wp2_with fail
   clear c20 c21 c22 c23
   refine (e2 _).mono ?_
   rintro e v1 ⟨rfl, b⟩
   have A1 := HA1.out.below b (Nat.le_refl _)
   have A2 := HA2.out.below b (Nat.le_refl _)
   have A3 := HA3.out.below b (Nat.le_refl _)
   have B := HB.out.trans (b.mono HB.out.size)
   clear HB b HA1 HA2 HA3
   have HA1 := hid A1
   have HA2 := hid A2
   have HA3 := hid A3
   have HB := hid B
   clear B
   clear A1 A2 A3
   go_wp2_with fail
   go_ret
   exact ⟨rfl, HB.out⟩
 by_cases o3 : okK K3 N3 f3 n3 = true
 rotate_left
 · have o3' : okK K3 N3 f3 n3 = false := by simpa using o3
   rw [show inSp K1 N1 f1 n1 zs1 K2 N2 f2 n2 zs2 K3 N3 f3 n3 zs3 = false by rw [inSp, o3', Bool.and_false]; rfl]
   rw [o1] at e1
   rw [o2] at e2
   rw [o3'] at e3
   clear o1 o2 o3 o3'
   go_enter Tryz.func107, Tryz.ntmps107
   go_wp2_with fail
   refine (e1 _).mono ?_
   rintro e v0 ⟨rfl, b⟩
   have A1 := HA1.out.below b (Nat.le_refl _)
   have A2 := HA2.out.below b (Nat.le_refl _)
   have A3 := HA3.out.below b (Nat.le_refl _)
   have B := HB.out.trans (b.mono HB.out.size)
   clear HB b HA1 HA2 HA3
   have HA1 := hid A1
   have HA2 := hid A2
   have HA3 := hid A3
   have HB := hid B
   clear B
   obtain ⟨c20, c21, c22, c23⟩ := A2.box
   clear A1 A2 A3
   go_wp2_with fail
   clear c20 c21 c22 c23
   refine (e2 _).mono ?_
   rintro e v1 ⟨rfl, b⟩
   have A1 := HA1.out.below b (Nat.le_refl _)
   have A2 := HA2.out.below b (Nat.le_refl _)
   have A3 := HA3.out.below b (Nat.le_refl _)
   have B := HB.out.trans (b.mono HB.out.size)
   clear HB b HA1 HA2 HA3
   have HA1 := hid A1
   have HA2 := hid A2
   have HA3 := hid A3
   have HB := hid B
   clear B
   obtain ⟨c30, c31, c32, c33⟩ := A3.box
   clear A1 A2 A3
   go_wp2_with fail
   clear c30 c31 c32 c33
   refine (e3 _).mono ?_
   rintro e v2 ⟨rfl, b⟩
   have A1 := HA1.out.below b (Nat.le_refl _)
   have A2 := HA2.out.below b (Nat.le_refl _)
   have A3 := HA3.out.below b (Nat.le_refl _)
   have B := HB.out.trans (b.mono HB.out.size)
   clear HB b HA1 HA2 HA3
   have HA1 := hid A1
   have HA2 := hid A2
   have HA3 := hid A3
   have HB := hid B
   clear B
   clear A1 A2 A3
   go_wp2_with fail
   go_ret
   exact ⟨rfl, HB.out⟩
 rw [o1] at e1
 rw [o2] at e2
 rw [o3] at e3
 have hs : inSp K1 N1 f1 n1 zs1 K2 N2 f2 n2 zs2 K3 N3 f3 n3 zs3 = (decide (cmpI K1 N1 f1 n1 zs1 K3 N3 f3 n3 zs3 ≤ 0) && decide (cmpI K3 N3 f3 n3 zs3 K2 N2 f2 n2 zs2 ≤ 0)) := by rw [inSp, o1, o2, o3]; rfl
 rw [hs]
 clear hs o1 o2 o3
 obtain ⟨x, q13⟩ : ∃ x, cmpI K1 N1 f1 n1 zs1 K3 N3 f3 n3 zs3 = x := ⟨_, rfl⟩
 obtain ⟨y, q32⟩ : ∃ y, cmpI K3 N3 f3 n3 zs3 K2 N2 f2 n2 zs2 = y := ⟨_, rfl⟩
 rw [q13, q32]
 by_cases hx : x ≤ 0
 rotate_left
 · rw [decide_eq_false hx, Bool.false_and]
   have hx' : ¬ x ≤ 0 := hx
   go_enter Tryz.func107, Tryz.ntmps107
   go_wp2_with fail
   refine (e1 _).mono ?_
   rintro e v0 ⟨rfl, b⟩
   have A1 := HA1.out.below b (Nat.le_refl _)
   have A2 := HA2.out.below b (Nat.le_refl _)
   have A3 := HA3.out.below b (Nat.le_refl _)
   have B := HB.out.trans (b.mono HB.out.size)
   clear HB b HA1 HA2 HA3
   have HA1 := hid A1
   have HA2 := hid A2
   have HA3 := hid A3
   have HB := hid B
   clear B
   obtain ⟨c20, c21, c22, c23⟩ := A2.box
   clear A1 A2 A3
   go_wp2_with fail
   clear c20 c21 c22 c23
   refine (e2 _).mono ?_
   rintro e v1 ⟨rfl, b⟩
   have A1 := HA1.out.below b (Nat.le_refl _)
   have A2 := HA2.out.below b (Nat.le_refl _)
   have A3 := HA3.out.below b (Nat.le_refl _)
   have B := HB.out.trans (b.mono HB.out.size)
   clear HB b HA1 HA2 HA3
   have HA1 := hid A1
   have HA2 := hid A2
   have HA3 := hid A3
   have HB := hid B
   clear B
   obtain ⟨c30, c31, c32, c33⟩ := A3.box
   clear A1 A2 A3
   go_wp2_with fail
   clear c30 c31 c32 c33
   refine (e3 _).mono ?_
   rintro e v2 ⟨rfl, b⟩
   have A1 := HA1.out.below b (Nat.le_refl _)
   have A2 := HA2.out.below b (Nat.le_refl _)
   have A3 := HA3.out.below b (Nat.le_refl _)
   have B := HB.out.trans (b.mono HB.out.size)
   clear HB b HA1 HA2 HA3
   have HA1 := hid A1
   have HA2 := hid A2
   have HA3 := hid A3
   have HB := hid B
   clear B
   obtain ⟨c10, c11, c12, c13⟩ := A1.box
   obtain ⟨c30, c31, c32, c33⟩ := A3.box
   clear A1 A2 A3
   go_wp2_with fail
   clear c10 c11 c12 c13 c30 c31 c32 c33
   refine (spec_ItemCompare K1 N1 K3 N3 f1 f3 cap1 cap3 hf1 hf3 HA1.out.reads HA3.out.reads hn1 hn3).mono ?_
   rintro e v3 ⟨rfl, b⟩
   have A1 := HA1.out.below b (Nat.le_refl _)
   have A2 := HA2.out.below b (Nat.le_refl _)
   have A3 := HA3.out.below b (Nat.le_refl _)
   have B := HB.out.trans (b.mono HB.out.size)
   clear HB b HA1 HA2 HA3
   have HA1 := hid A1
   have HA2 := hid A2
   have HA3 := hid A3
   have HB := hid B
   clear B
   rw [q13]
   clear A1 A2 A3
   go_wp2_with fail
   go_ret
   exact ⟨rfl, HB.out⟩
 rw [decide_eq_true hx, Bool.true_and]
 by_cases hy : y ≤ 0
 · rw [decide_eq_true hy]
   go_enter Tryz.func107, Tryz.ntmps107
   go_wp2_with fail
   refine (e1 _).mono ?_
   rintro e v0 ⟨rfl, b⟩
   have A1 := HA1.out.below b (Nat.le_refl _)
   have A2 := HA2.out.below b (Nat.le_refl _)
   have A3 := HA3.out.below b (Nat.le_refl _)
   have B := HB.out.trans (b.mono HB.out.size)
   clear HB b HA1 HA2 HA3
   have HA1 := hid A1
   have HA2 := hid A2
   have HA3 := hid A3
   have HB := hid B
   clear B
   obtain ⟨c20, c21, c22, c23⟩ := A2.box
   clear A1 A2 A3
   go_wp2_with fail
   clear c20 c21 c22 c23
   refine (e2 _).mono ?_
   rintro e v1 ⟨rfl, b⟩
   have A1 := HA1.out.below b (Nat.le_refl _)
   have A2 := HA2.out.below b (Nat.le_refl _)
   have A3 := HA3.out.below b (Nat.le_refl _)
   have B := HB.out.trans (b.mono HB.out.size)
   clear HB b HA1 HA2 HA3
   have HA1 := hid A1
   have HA2 := hid A2
   have HA3 := hid A3
   have HB := hid B
   clear B
   obtain ⟨c30, c31, c32, c33⟩ := A3.box
   clear A1 A2 A3
   go_wp2_with fail
   clear c30 c31 c32 c33
   refine (e3 _).mono ?_
   rintro e v2 ⟨rfl, b⟩
   have A1 := HA1.out.below b (Nat.le_refl _)
   have A2 := HA2.out.below b (Nat.le_refl _)
   have A3 := HA3.out.below b (Nat.le_refl _)
   have B := HB.out.trans (b.mono HB.out.size)
   clear HB b HA1 HA2 HA3
   have HA1 := hid A1
   have HA2 := hid A2
   have HA3 := hid A3
   have HB := hid B
   clear B
   obtain ⟨c10, c11, c12, c13⟩ := A1.box
   obtain ⟨c30, c31, c32, c33⟩ := A3.box
   clear A1 A2 A3
   go_wp2_with fail
   clear c10 c11 c12 c13 c30 c31 c32 c33
   refine (spec_ItemCompare K1 N1 K3 N3 f1 f3 cap1 cap3 hf1 hf3 HA1.out.reads HA3.out.reads hn1 hn3).mono ?_
   rintro e v3 ⟨rfl, b⟩
   have A1 := HA1.out.below b (Nat.le_refl _)
   have A2 := HA2.out.below b (Nat.le_refl _)
   have A3 := HA3.out.below b (Nat.le_refl _)
   have B := HB.out.trans (b.mono HB.out.size)
   clear HB b HA1 HA2 HA3
   have HA1 := hid A1
   have HA2 := hid A2
   have HA3 := hid A3
   have HB := hid B
   clear B
   rw [q13]
   obtain ⟨c30, c31, c32, c33⟩ := A3.box
   obtain ⟨c20, c21, c22, c23⟩ := A2.box
   clear A1 A2 A3
   go_wp2_with fail
   clear c30 c31 c32 c33 c20 c21 c22 c23
   refine (spec_ItemCompare K3 N3 K2 N2 f3 f2 cap3 cap2 hf3 hf2 HA3.out.reads HA2.out.reads hn3 hn2).mono ?_
   rintro e v4 ⟨rfl, b⟩
   have A1 := HA1.out.below b (Nat.le_refl _)
   have A2 := HA2.out.below b (Nat.le_refl _)
   have A3 := HA3.out.below b (Nat.le_refl _)
   have B := HB.out.trans (b.mono HB.out.size)
   clear HB b HA1 HA2 HA3
   have HA1 := hid A1
   have HA2 := hid A2
   have HA3 := hid A3
   have HB := hid B
   clear B
   rw [q32]
   clear A1 A2 A3
   go_wp2_with fail
   go_ret
   exact ⟨by first | rfl | (show Ending.returned (.bool (decide (y ≤ 0))) = _; rw [decide_eq_false (show ¬ y ≤ 0 by omega)]), HB.out⟩
 · rw [decide_eq_false hy]
   go_enter Tryz.func107, Tryz.ntmps107
   go_wp2_with fail
   refine (e1 _).mono ?_
   rintro e v0 ⟨rfl, b⟩
   have A1 := HA1.out.below b (Nat.le_refl _)
   have A2 := HA2.out.below b (Nat.le_refl _)
   have A3 := HA3.out.below b (Nat.le_refl _)
   have B := HB.out.trans (b.mono HB.out.size)
   clear HB b HA1 HA2 HA3
   have HA1 := hid A1
   have HA2 := hid A2
   have HA3 := hid A3
   have HB := hid B
   clear B
   obtain ⟨c20, c21, c22, c23⟩ := A2.box
   clear A1 A2 A3
   go_wp2_with fail
   clear c20 c21 c22 c23
   refine (e2 _).mono ?_
   rintro e v1 ⟨rfl, b⟩
   have A1 := HA1.out.below b (Nat.le_refl _)
   have A2 := HA2.out.below b (Nat.le_refl _)
   have A3 := HA3.out.below b (Nat.le_refl _)
   have B := HB.out.trans (b.mono HB.out.size)
   clear HB b HA1 HA2 HA3
   have HA1 := hid A1
   have HA2 := hid A2
   have HA3 := hid A3
   have HB := hid B
   clear B
   obtain ⟨c30, c31, c32, c33⟩ := A3.box
   clear A1 A2 A3
   go_wp2_with fail
   clear c30 c31 c32 c33
   refine (e3 _).mono ?_
   rintro e v2 ⟨rfl, b⟩
   have A1 := HA1.out.below b (Nat.le_refl _)
   have A2 := HA2.out.below b (Nat.le_refl _)
   have A3 := HA3.out.below b (Nat.le_refl _)
   have B := HB.out.trans (b.mono HB.out.size)
   clear HB b HA1 HA2 HA3
   have HA1 := hid A1
   have HA2 := hid A2
   have HA3 := hid A3
   have HB := hid B
   clear B
   obtain ⟨c10, c11, c12, c13⟩ := A1.box
   obtain ⟨c30, c31, c32, c33⟩ := A3.box
   clear A1 A2 A3
   go_wp2_with fail
   clear c10 c11 c12 c13 c30 c31 c32 c33
   refine (spec_ItemCompare K1 N1 K3 N3 f1 f3 cap1 cap3 hf1 hf3 HA1.out.reads HA3.out.reads hn1 hn3).mono ?_
   rintro e v3 ⟨rfl, b⟩
   have A1 := HA1.out.below b (Nat.le_refl _)
   have A2 := HA2.out.below b (Nat.le_refl _)
   have A3 := HA3.out.below b (Nat.le_refl _)
   have B := HB.out.trans (b.mono HB.out.size)
   clear HB b HA1 HA2 HA3
   have HA1 := hid A1
   have HA2 := hid A2
   have HA3 := hid A3
   have HB := hid B
   clear B
   rw [q13]
   obtain ⟨c30, c31, c32, c33⟩ := A3.box
   obtain ⟨c20, c21, c22, c23⟩ := A2.box
   clear A1 A2 A3
   go_wp2_with fail
   clear c30 c31 c32 c33 c20 c21 c22 c23
   refine (spec_ItemCompare K3 N3 K2 N2 f3 f2 cap3 cap2 hf3 hf2 HA3.out.reads HA2.out.reads hn3 hn2).mono ?_
   rintro e v4 ⟨rfl, b⟩
   have A1 := HA1.out.below b (Nat.le_refl _)
   have A2 := HA2.out.below b (Nat.le_refl _)
   have A3 := HA3.out.below b (Nat.le_refl _)
   have B := HB.out.trans (b.mono HB.out.size)
   clear HB b HA1 HA2 HA3
   have HA1 := hid A1
   have HA2 := hid A2
   have HA3 := hid A3
   have HB := hid B
   clear B
   rw [q32]
   clear A1 A2 A3
   go_wp2_with fail
   go_ret
   exact ⟨by first | rfl | (show Ending.returned (.bool (decide (y ≤ 0))) = _; rw [decide_eq_false (show ¬ y ≤ 0 by omega)]), HB.out⟩
end Go.Proofs.YtjcjoabblafboaaGreat
/- A tuple that came in, opened: what it reads as. No conditions. -/




namespace Go.Proofs.YtjcjoabblafboaaGreat
open Go.RowKit Go.ChangeShapes Go.WideShapes Go.Deep
set_option maxRecDepth 100000
section
variable {H : Type} {enc : TypeId × Value → H} {w : World} {base : Nat} {held : Bool}
end
end Go.Proofs.YtjcjoabblafboaaGreat
/- Items, spans and tracks that came in, opened: what they read as. No conditions. -/


namespace Go.Proofs.YtjcjoabblafboaaGreat
open Go.RowKit Go.ChangeShapes Go.WideShapes Go.Deep
set_option maxRecDepth 100000
def bdT1 (t : Tk) : Prop := (-9223372036854775808 ≤ t.xid ∧ t.xid ≤ 9223372036854775807) ∧ (-9223372036854775808 ≤ t.begun ∧ t.begun ≤ 9223372036854775807) ∧ (-9223372036854775808 ≤ t.ended ∧ t.ended ≤ 9223372036854775807)
def bdTs (ts : List Tk) : Prop := ∀ i, bdT1 (ts.getD i tk0)
section
variable {H : Type} {enc : TypeId × Value → H} {w : World} {base : Nat} {held : Bool}
end
end Go.Proofs.YtjcjoabblafboaaGreat
/- Spans and tracks, plain, and the contracts of the specification's SpanOk, Concurrent, TrackReads. Conditions: texts of at most 2^21 bytes, at most 2^21 reads. -/



namespace Go.Proofs.YtjcjoabblafboaaGreat
open Go.RowKit
set_option maxRecDepth 100000
def okM (e : Im) : Bool := okK e.K e.N e.F e.Z.length
def cmpM (e f : Im) : Int := cmpI e.K e.N e.F e.Z.length e.Z f.K f.N f.F f.Z.length f.Z
def spB (p : Im × Im) : Bool := okM p.1 && (okM p.2 && decide (cmpM p.1 p.2 ≤ 0))
def inM (p : Im × Im) (x : Im) : Bool := inSp p.1.K p.1.N p.1.F p.1.Z.length p.1.Z p.2.K p.2.N p.2.F p.2.Z.length p.2.Z x.K x.N x.F x.Z.length x.Z
abbrev imV (e : Im) (x : Value) : Value := .agg #[.int .i64 e.K, .int .i64 e.N, .float .f64 e.F, x]
abbrev spV (e f : Im) (x y : Value) : Value := .agg #[.int .i64 e.K, .int .i64 e.N, .float .f64 e.F, x, .int .i64 f.K, .int .i64 f.N, .float .f64 f.F, y]
set_option maxHeartbeats 3200000 in
theorem spec_SpanOk (e f : Im) {a a' : Option Addr} (c c' : Nat) {w : World} (r : Reads w a e.Z.length e.Z) (r' : Reads w a' f.Z.length f.Z) (hf : e.F < 18446744073709551616) (hf' : f.F < 18446744073709551616) (hn : e.Z.length ≤ 2097152) (hn' : f.Z.length ≤ 2097152) :
 Calls Tryz.prog 39 #[spV e f (.slice a e.Z.length c) (.slice a' f.Z.length c')] w fun y w' => y = .returned (.bool (spB (e, f))) ∧ Below w.heap.size w w' := by
 obtain ⟨K, N, F, Z⟩ := e
 obtain ⟨K', N', F', Z'⟩ := f
 simp only at r r' hf hf' hn hn'
 obtain ⟨n, hZ⟩ : ∃ n, Z.length = n := ⟨_, rfl⟩
 obtain ⟨n', hZ'⟩ : ∃ n, Z'.length = n := ⟨_, rfl⟩
 have HSp := hid (show spB (⟨K, N, F, Z⟩, ⟨K', N', F', Z'⟩) = (okK K N F n && (okK K' N' F' n' && decide (cmpI K N F n Z K' N' F' n' Z' ≤ 0))) by unfold spB okM cmpM; simp only [hZ, hZ'])
 rw [HSp.out]
 simp only [hZ, hZ'] at r r' hn hn' ⊢
 clear hZ hZ' HSp
 have hst := fun w a m => run_store Tryz.prog w a (.float .f64 F) m rfl
 have hst' := fun w a m => run_store Tryz.prog w a (.float .f64 F') m rfl
 have hB := Below.alloc1 w (.cells #[.int .i64 K, .int .i64 N, .float .f64 F, .slice a n c, .int .i64 K', .int .i64 N', .float .f64 F', .slice a' n' c'] 74)
 have R := heap_alloc_new w (.cells #[.int .i64 K, .int .i64 N, .float .f64 F, .slice a n c, .int .i64 K', .int .i64 N', .float .f64 F', .slice a' n' c'] 74)
 have HZ := hid (alloc_size w (.cells #[.int .i64 K, .int .i64 N, .float .f64 F, .slice a n c, .int .i64 K', .int .i64 N', .float .f64 F', .slice a' n' c'] 74))
 have H1 := hid (r.below hB (Nat.le_refl _))
 have H2 := hid (r'.below hB (Nat.le_refl _))
 have HB := hid hB
 have HR := hid R
 clear hB R r r'
 have cells : ∀ W : World, W.heap[w.heap.size]? = some (.cells #[.int .i64 K, .int .i64 N, .float .f64 F, .slice a n c, .int .i64 K', .int .i64 N', .float .f64 F', .slice a' n' c'] 74) → (W.cell? ⟨w.heap.size, 0, none⟩ = some (.int .i64 K) ∧ W.cell? ⟨w.heap.size, 1, none⟩ = some (.int .i64 N) ∧ W.cell? ⟨w.heap.size, 2, none⟩ = some (.float .f64 F) ∧ W.cell? ⟨w.heap.size, 3, none⟩ = some (.slice a n c)) ∧ (W.cell? ⟨w.heap.size, 4, none⟩ = some (.int .i64 K') ∧ W.cell? ⟨w.heap.size, 5, none⟩ = some (.int .i64 N') ∧ W.cell? ⟨w.heap.size, 6, none⟩ = some (.float .f64 F') ∧ W.cell? ⟨w.heap.size, 7, none⟩ = some (.slice a' n' c')) := fun W h => by
  refine ⟨⟨?_, ?_, ?_, ?_⟩, ?_, ?_, ?_, ?_⟩ <;> (rw [cell_of_row _ _ _ _ _ _ h]; rfl)
 have HC := hid cells
 clear cells
 go_enter Tryz.func39, Tryz.ntmps39
 go_wp2_with fail
 refine (spec_KeyOk K N F a n c hf hn _).mono ?_
 rintro y w1 ⟨rfl, b⟩
 have t0 := (b.block w.heap.size (by have := HZ.out; omega)).trans HR.out
 replace HB := hid (HB.out.trans (b.mono HB.out.size))
 replace H1 := hid (H1.out.below b (Nat.le_refl _))
 replace H2 := hid (H2.out.below b (Nat.le_refl _))
 replace HR := hid t0
 have HS1 := hid (show w.heap.size < w1.heap.size by have := HZ.out; have := b.size; omega)
 cases hk : okK K N F n with
 | false =>
  have HK := hid hk
  clear hk t0 b
  go_wp2_with fail
  go_ret
  exact ⟨by rw [HK.out]; simp, HB.out⟩
 | true =>
  have HK := hid hk
  obtain ⟨-, d4, d5, d6, d7⟩ := HC.out _ t0
  clear hk t0 b
  go_wp2_with fail
  clear d4 d5 d6 d7
  refine (spec_KeyOk K' N' F' a' n' c' hf' hn' _).mono ?_
  rintro y w2 ⟨rfl, b⟩
  have t0 := (b.block w.heap.size HS1.out).trans HR.out
  replace HB := hid (HB.out.trans (b.mono HB.out.size))
  replace H1 := hid (H1.out.below b (Nat.le_refl _))
  replace H2 := hid (H2.out.below b (Nat.le_refl _))
  cases hk : okK K' N' F' n' with
  | false =>
   have HK2 := hid hk
   clear hk t0 b
   go_wp2_with fail
   go_ret
   exact ⟨by rw [HK.out, HK2.out]; simp, HB.out⟩
  | true =>
   have HK2 := hid hk
   obtain ⟨⟨d0, d1, d2, d3⟩, d4, d5, d6, d7⟩ := HC.out _ t0
   clear hk t0 b
   go_wp2_with fail
   clear d0 d1 d2 d3 d4 d5 d6 d7
   refine (spec_ItemCompare K N K' N' F F' c c' hf hf' H1.out H2.out hn hn').mono ?_
   rintro y w3 ⟨rfl, b⟩
   replace HB := hid (HB.out.trans (b.mono HB.out.size))
   clear b
   go_wp2_with fail
   go_ret
   exact ⟨by rw [HK.out, HK2.out]; simp, HB.out⟩
end Go.Proofs.YtjcjoabblafboaaGreat
