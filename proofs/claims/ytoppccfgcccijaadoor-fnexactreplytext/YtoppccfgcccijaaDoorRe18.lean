/- The contracts of the laws' toReply, szReply, eqReply, markReply. Conditions: texts and rows of at most 2^21. -/
import Derived.Test.YtoppccfgcccijaaDoorRb18
import Derived.Test.YtoppccfgcccijaaDoorRc18
import Derived.Test.YtoppccfgcccijaaDoorRd18
namespace Go.Proofs.YtoppccfgcccijaaDoor
open Go.RowKit
set_option maxRecDepth 100000

theorem size_rp18 : (Tryd.prog.info? 46).map (·.size) = some 10 := by kernel_rfl
theorem size_lrp18 : (Tryd.prog.info? 41).map (·.size) = some 10 := by kernel_rfl
theorem grown_setR18 (w : World) (g i : Nat) (v : Value) : w.grownBy (w.setCell ⟨g, i, none⟩ v) (some g) := ⟨rfl, rfl, rfl, by simp, fun k _ hne => heap_setCell_other _ _ _ _ (fun e => hne (by rw [e]))⟩
/-- A reply's memory of its own: its text, then its rows. -/
structure OwnRp (w : World) (lo hi g1 g2 n m : Nat) (zs : List Int) (es : List Im) : Prop where
  tx : w.ownsRow lo 5 1 (.slice (some ⟨g1, 0, none⟩) n n) n (bys zs)
  pr : ∃ md, g1 < md ∧ lo ≤ md ∧ OwnM 69 8 w md hi (.slice (some ⟨g2, 0, none⟩) m m) m es
  lt : g1 < hi
  hw : hi ≤ w.heap.size
theorem own_agree18 {w w' : World} {lo hi g n c s : Nat} {e : TypeId} {xs : List Value} (h : w.ownsRow lo e s (.slice (some ⟨g, 0, none⟩) n c) n xs) (hlt : g < hi) (ha : Agree lo hi w w') : w'.ownsRow lo e s (.slice (some ⟨g, 0, none⟩) n c) n xs := by
  refine ⟨h.1, ?_⟩
  rcases h.2 with ⟨h', _⟩ | ⟨g', cap', cur, h', hb, hg, rest⟩
  · simp at h'
  · simp only [Value.slice.injEq, Option.some.injEq, Addr.mk.injEq, and_true, true_and] at h'
    obtain ⟨rfl, rfl⟩ := h'
    exact .inr ⟨g, c, cur, rfl, hb, (ha g hb hlt).trans hg, rest⟩
theorem OwnRp.agree {w w' : World} {lo hi g1 g2 n m : Nat} {zs : List Int} {es : List Im} (h : OwnRp w lo hi g1 g2 n m zs es) (ha : Agree lo hi w w') (hs : w.heap.size ≤ w'.heap.size) : OwnRp w' lo hi g1 g2 n m zs es := by
  obtain ⟨md, h1, h2, h3⟩ := h.pr
  exact ⟨own_agree18 h.tx h.lt ha, ⟨md, h1, h2, h3.agree (fun k a b => ha k (by omega) b)⟩, h.lt, Nat.le_trans h.hw hs⟩
theorem OwnRp.below {w w' : World} {lo hi g1 g2 n m : Nat} {zs : List Int} {es : List Im} (h : OwnRp w lo hi g1 g2 n m zs es) (b : Below w.heap.size w w') : OwnRp w' lo hi g1 g2 n m zs es := h.agree (Agree.below b h.hw) b.size
theorem OwnRp.rd {w : World} {lo hi g1 g2 n m : Nat} {zs : List Int} {es : List Im} (h : OwnRp w lo hi g1 g2 n m zs es) (hb : ∀ i, 0 ≤ zs.getD i 0 ∧ zs.getD i 0 ≤ 255) : Reads w (some ⟨g1, 0, none⟩) n zs ∧ ReadsM w (some ⟨g2, 0, none⟩) es := by
  obtain ⟨md, _, _, h3⟩ := h.pr
  obtain ⟨_, _, e, r, _⟩ := Reads.own h.tx hb
  cases e
  exact ⟨r, h3.rd⟩
theorem OwnRp.lo {w : World} {lo hi g1 g2 n m : Nat} {zs : List Int} {es : List Im} (h : OwnRp w lo hi g1 g2 n m zs es) {lo' : Nat} (hl : lo' ≤ lo) : OwnRp w lo' hi g1 g2 n m zs es := by
  obtain ⟨md, h1, h2, h3⟩ := h.pr
  exact ⟨by
    refine ⟨h.tx.1, ?_⟩
    rcases h.tx.2 with h' | ⟨g', cap', cur, h', hb, rest⟩
    · exact .inl h'
    · exact .inr ⟨g', cap', cur, h', Nat.le_trans hl hb, rest⟩, ⟨md, h1, by omega, h3⟩, h.lt, h.hw⟩

set_option maxHeartbeats 6400000 in
theorem toReply (se kd co nn K N : Int) (f : Nat) {ad : Option Addr} {n : Nat} (c : Nat) {ar : Option Addr} {m : Nat} (cr : Nat) (tot : Nat) {zs : List Int} {es : List Im} {w : World} (r1 : Reads w ad n zs) (r2 : ReadsM w ar es) (hl : es.length = m * 2) (hn : n ≤ 2097152) (hm : m ≤ 2097152) (hs : sumI es ≤ 2097152) :
    Calls Tryd.prog 21 #[.agg #[.int .i64 se, .int .i64 kd, .int .i64 co, .int .i64 nn, .int .i64 K, .int .i64 N, .float .f64 f, .slice ad n c, .slice ar m cr, .float .f64 tot]] w fun e w' => ∃ g1 g2, e = .returned (.agg #[.int .i64 se, .int .i64 kd, .int .i64 co, .int .i64 nn, .int .i64 K, .int .i64 N, .float .f64 f, .slice (some ⟨g1, 0, none⟩) n n, .slice (some ⟨g2, 0, none⟩) m m, .float .f64 tot]) ∧ OwnRp w' w.heap.size w'.heap.size g1 g2 n m zs es ∧ Below w.heap.size w w' := by
  have hst1 := fun w a m => run_store Tryd.prog w a (.float .f64 f) m rfl
  have hst2 := fun w a m => run_store Tryd.prog w a (.float .f64 tot) m rfl
  obtain ⟨z3', r1', r2', b3⟩ := three w (.cells #[.int .i64 se, .int .i64 kd, .int .i64 co, .int .i64 nn, .int .i64 K, .int .i64 N, .float .f64 f, .slice ad n c, .slice ar m cr, .float .f64 tot] 41) (.cells #[.int .i64 0, .int .i64 0, .int .i64 0, .int .i64 0, .int .i64 0, .int .i64 0, .float .f64 0, .slice none 0 0, .slice none 0 0, .float .f64 0] 46) (.cells #[.int .i64 se, .int .i64 kd, .int .i64 co, .int .i64 nn, .int .i64 0, .int .i64 0, .float .f64 0, .slice none 0 0, .slice none 0 0, .float .f64 0] 46)
  have r0' := three_first w (.cells #[.int .i64 se, .int .i64 kd, .int .i64 co, .int .i64 nn, .int .i64 K, .int .i64 N, .float .f64 f, .slice ad n c, .slice ar m cr, .float .f64 tot] 41) (.cells #[.int .i64 0, .int .i64 0, .int .i64 0, .int .i64 0, .int .i64 0, .int .i64 0, .float .f64 0, .slice none 0 0, .slice none 0 0, .float .f64 0] 46) (.cells #[.int .i64 se, .int .i64 kd, .int .i64 co, .int .i64 nn, .int .i64 0, .int .i64 0, .float .f64 0, .slice none 0 0, .slice none 0 0, .float .f64 0] 46)
  have H0 := hid r0'
  have H1 := hid r1'
  have H2 := hid r2'
  have HZ := hid (show w.heap.size + 3 ≤ _ from Nat.le_of_eq z3'.symm)
  have HB := hid b3
  have BD1 := hid r1.bd
  have RR := hid (And.intro r1 r2)
  clear r0' r1' r2' z3' b3 r1 r2
  go_enter Tryd.func21, Tryd.ntmps21
  go_wp2_with fail
  generalize (((w.alloc (.cells #[.int .i64 se, .int .i64 kd, .int .i64 co, .int .i64 nn, .int .i64 K, .int .i64 N, .float .f64 f, .slice ad n c, .slice ar m cr, .float .f64 tot] 41)).alloc (.cells #[.int .i64 0, .int .i64 0, .int .i64 0, .int .i64 0, .int .i64 0, .int .i64 0, .float .f64 0, .slice none 0 0, .slice none 0 0, .float .f64 0] 46)).alloc (.cells #[.int .i64 se, .int .i64 kd, .int .i64 co, .int .i64 nn, .int .i64 0, .int .i64 0, .float .f64 0, .slice none 0 0, .slice none 0 0, .float .f64 0] 46)) = U0 at *
  have HZ00 := hid HZ.out
  refine (toItem K N f c (RR.out.1.below HB.out (Nat.le_refl _)) hn).mono ?_
  rintro e w1 ⟨g1, rfl, ow, b⟩
  have z := HZ.out
  have bs0 := b.size
  have t0 := (b.block w.heap.size (by omega)).trans H0.out
  have t1 := (b.block (w.heap.size + 1) (by omega)).trans H1.out
  have t2 := (b.block (w.heap.size + 1 + 1) (by omega)).trans H2.out
  have og := ow.lt g1 rfl
  have bb := HB.out.trans (b.mono (by omega))
  have u2 := setRow_heap w1 (w.heap.size + 1 + 1) _ #[.int .i64 se, .int .i64 kd, .int .i64 co, .int .i64 nn, .int .i64 K, .int .i64 N, .float .f64 f, .slice (some ⟨g1, 0, none⟩) n n, .slice none 0 0, .float .f64 0] _ _ t2
  have u1 := (setRow_other w1 (w.heap.size + 1 + 1) (w.heap.size + 1) #[.int .i64 se, .int .i64 kd, .int .i64 co, .int .i64 nn, .int .i64 K, .int .i64 N, .float .f64 f, .slice (some ⟨g1, 0, none⟩) n n, .slice none 0 0, .float .f64 0] (by omega)).trans t1
  have u0 := (setRow_other w1 (w.heap.size + 1 + 1) w.heap.size #[.int .i64 se, .int .i64 kd, .int .i64 co, .int .i64 nn, .int .i64 K, .int .i64 N, .float .f64 f, .slice (some ⟨g1, 0, none⟩) n n, .slice none 0 0, .float .f64 0] (by omega)).trans t0
  have bA := below_setRow bb (show w.heap.size ≤ (w.heap.size + 1 + 1) by omega) #[.int .i64 se, .int .i64 kd, .int .i64 co, .int .i64 nn, .int .i64 K, .int .i64 N, .float .f64 f, .slice (some ⟨g1, 0, none⟩) n n, .slice none 0 0, .float .f64 0]
  have G1 := hid (ow.kept (row_grown13 w1 (w.heap.size + 1 + 1) #[.int .i64 se, .int .i64 kd, .int .i64 co, .int .i64 nn, .int .i64 K, .int .i64 N, .float .f64 f, .slice (some ⟨g1, 0, none⟩) n n, .slice none 0 0, .float .f64 0]) (.inr (fun e => by have := (ow.lt _ e).1; omega)))
  have HG1 := hid (show w.heap.size + 3 ≤ g1 ∧ g1 < w1.heap.size from ⟨by omega, og.2⟩)
  have c8_ : (w1.setRow (w.heap.size + 1 + 1) #[.int .i64 se, .int .i64 kd, .int .i64 co, .int .i64 nn, .int .i64 K, .int .i64 N, .float .f64 f, .slice (some ⟨g1, 0, none⟩) n n, .slice none 0 0, .float .f64 0]).cell? ⟨w.heap.size, 8, none⟩ = some (.slice ar m cr) := by rw [cell_of_row _ _ _ _ _ _ u0]; rfl
  have T2 := hid t2
  replace H0 := hid u0
  replace H1 := hid u1
  replace H2 := hid u2
  replace HB := hid bA
  have HZ1 := hid (show w1.heap.size ≤ (w1.setRow (w.heap.size + 1 + 1) #[.int .i64 se, .int .i64 kd, .int .i64 co, .int .i64 nn, .int .i64 K, .int .i64 N, .float .f64 f, .slice (some ⟨g1, 0, none⟩) n n, .slice none 0 0, .float .f64 0]).heap.size by simp)
  replace HZ := hid (show w.heap.size + 3 ≤ (w1.setRow (w.heap.size + 1 + 1) #[.int .i64 se, .int .i64 kd, .int .i64 co, .int .i64 nn, .int .i64 K, .int .i64 N, .float .f64 f, .slice (some ⟨g1, 0, none⟩) n n, .slice none 0 0, .float .f64 0]).heap.size by simp; omega)
  clear z bs0 t0 t1 t2 og bb ow b u0 u1 u2 bA
  go_wp2_with (refine wpList_store_part rfl 28 (.tmp 19) (.tmp 18) rfl (w.heap.size + 1 + 1) 4 #[.int .i64 K, .int .i64 N, .float .f64 f, .slice (some ⟨g1, 0, none⟩) n n] rfl rfl 46 _ T2.out ?s1 ?s2 ?s3 #[.int .i64 se, .int .i64 kd, .int .i64 co, .int .i64 nn, .int .i64 K, .int .i64 N, .float .f64 f, .slice (some ⟨g1, 0, none⟩) n n, .slice none 0 0, .float .f64 0] rfl ?_)
  case s1 => exact size_it13
  case s2 => simp
  case s3 => simp [Value.oneCell']
  clear c8_ T2
  generalize w1.setRow (w.heap.size + 1 + 1) #[.int .i64 se, .int .i64 kd, .int .i64 co, .int .i64 nn, .int .i64 K, .int .i64 N, .float .f64 f, .slice (some ⟨g1, 0, none⟩) n n, .slice none 0 0, .float .f64 0] = U1 at *
  refine (toPairS cr (RR.out.2.below HB.out (Nat.le_refl _)) hl hm hs).mono ?_
  rintro e w2 ⟨rfl, om, b⟩
  obtain ⟨g2, hg2⟩ : ∃ g, U1.heap.size = g := ⟨_, rfl⟩
  have HG2 := hid hg2
  rw [hg2] at om
  try simp only [hg2]
  have z := HZ.out
  have bs0 := b.size
  have t0 := (b.block w.heap.size (by omega)).trans H0.out
  have t1 := (b.block (w.heap.size + 1) (by omega)).trans H1.out
  have t2 := (b.block (w.heap.size + 1 + 1) (by omega)).trans H2.out
  have bb := HB.out.trans (b.mono (by omega))
  have OR := hid (show OwnRp w2 (w.heap.size + 3) w2.heap.size g1 g2 n m zs es from ⟨owns_lower (owns_below b (Nat.le_refl _) G1.out) (by have := HZ00.out; omega), ⟨g2, by have := HG1.out; have := HZ1.out; omega, by omega, om⟩, by have := HG1.out; have := HZ1.out; omega, Nat.le_refl _⟩)
  have HB2 := hid bb
  have T0 := hid t0
  have T1 := hid t1
  have T2 := hid t2
  have HZ2 := hid (show w.heap.size + 3 ≤ w2.heap.size by omega)
  clear z bs0 t0 t1 t2 bb om b hg2 H0 H1 H2 HB G1
  have dz1 : w2.cell? ⟨(w.heap.size + 1 + 1), 8, none⟩ = some (.slice none 0 0) := by rw [cell_of_row _ _ _ _ _ _ T2.out]; rfl
  have fz1 : w2.frozen? ⟨(w.heap.size + 1 + 1), 8, none⟩ = false := frozen_of_row _ _ _ _ _ T2.out
  have u2 := heap_setCell_same w2 (w.heap.size + 1 + 1) 8 _ 46 (.slice (some ⟨g2, 0, none⟩) m m) T2.out
  have u1 := (heap_setCell_other w2 ⟨(w.heap.size + 1 + 1), 8, none⟩ (w.heap.size + 1) (.slice (some ⟨g2, 0, none⟩) m m) (show w.heap.size + 1 ≠ w.heap.size + 1 + 1 by omega)).trans T1.out
  have u0 := (heap_setCell_other w2 ⟨(w.heap.size + 1 + 1), 8, none⟩ w.heap.size (.slice (some ⟨g2, 0, none⟩) m m) (show w.heap.size ≠ w.heap.size + 1 + 1 by omega)).trans T0.out
  have c9_ : (w2.setCell ⟨(w.heap.size + 1 + 1), 8, none⟩ (.slice (some ⟨g2, 0, none⟩) m m)).cell? ⟨w.heap.size, 9, none⟩ = some (.float .f64 tot) := by rw [cell_of_row _ _ _ _ _ _ u0]; rfl
  have d9_ : (w2.setCell ⟨(w.heap.size + 1 + 1), 8, none⟩ (.slice (some ⟨g2, 0, none⟩) m m)).cell? ⟨(w.heap.size + 1 + 1), 9, none⟩ = some (.float .f64 0) := by rw [cell_of_row _ _ _ _ _ _ u2]; rfl
  have f9_ : (w2.setCell ⟨(w.heap.size + 1 + 1), 8, none⟩ (.slice (some ⟨g2, 0, none⟩) m m)).frozen? ⟨(w.heap.size + 1 + 1), 9, none⟩ = false := frozen_of_row _ _ _ _ _ u2
  have v2 := heap_setCell_same (w2.setCell ⟨(w.heap.size + 1 + 1), 8, none⟩ (.slice (some ⟨g2, 0, none⟩) m m)) (w.heap.size + 1 + 1) 9 _ 46 (.float .f64 tot) u2
  have v1 := (heap_setCell_other (w2.setCell ⟨(w.heap.size + 1 + 1), 8, none⟩ (.slice (some ⟨g2, 0, none⟩) m m)) ⟨(w.heap.size + 1 + 1), 9, none⟩ (w.heap.size + 1) (.float .f64 tot) (show w.heap.size + 1 ≠ w.heap.size + 1 + 1 by omega)).trans u1
  have Y1 := hid v1
  have Y2 := hid v2
  have bA := (HB2.out.setCell (p := ⟨(w.heap.size + 1 + 1), 8, none⟩) (show w.heap.size ≤ w.heap.size + 1 + 1 by omega) (.slice (some ⟨g2, 0, none⟩) m m)).setCell (p := ⟨(w.heap.size + 1 + 1), 9, none⟩) (show w.heap.size ≤ w.heap.size + 1 + 1 by omega) (.float .f64 tot)
  have B4 := hid (below_setRow bA (show w.heap.size ≤ (w.heap.size + 1) by omega) #[.int .i64 se, .int .i64 kd, .int .i64 co, .int .i64 nn, .int .i64 K, .int .i64 N, .float .f64 f, .slice (some ⟨g1, 0, none⟩) n n, .slice (some ⟨g2, 0, none⟩) m m, .float .f64 tot])
  have OF := hid (OR.out.agree (w' := ((w2.setCell ⟨(w.heap.size + 1 + 1), 8, none⟩ (.slice (some ⟨g2, 0, none⟩) m m)).setCell ⟨(w.heap.size + 1 + 1), 9, none⟩ (.float .f64 tot)).setRow (w.heap.size + 1) #[.int .i64 se, .int .i64 kd, .int .i64 co, .int .i64 nn, .int .i64 K, .int .i64 N, .float .f64 f, .slice (some ⟨g1, 0, none⟩) n n, .slice (some ⟨g2, 0, none⟩) m m, .float .f64 tot]) (fun k h1 h2 => by
    rw [setRow_other _ _ _ _ (by omega), heap_setCell_other _ _ _ _ (show k ≠ w.heap.size + 1 + 1 by omega), heap_setCell_other _ _ _ _ (show k ≠ w.heap.size + 1 + 1 by omega)]) (by simp))
  have HE := hid (show (((w2.setCell ⟨(w.heap.size + 1 + 1), 8, none⟩ (.slice (some ⟨g2, 0, none⟩) m m)).setCell ⟨(w.heap.size + 1 + 1), 9, none⟩ (.float .f64 tot)).setRow (w.heap.size + 1) #[.int .i64 se, .int .i64 kd, .int .i64 co, .int .i64 nn, .int .i64 K, .int .i64 N, .float .f64 f, .slice (some ⟨g1, 0, none⟩) n n, .slice (some ⟨g2, 0, none⟩) m m, .float .f64 tot]).heap.size = w2.heap.size by simp)
  clear bA u0 u1 u2 v1 v2
  go_wp2_with (first
    | (refine wpList_load_row rfl 46 (.tmp 3) rfl (w.heap.size + 1 + 1) rfl 46 _ (0, 0) _ Y2.out Tryd.underlying46 rfl size_rp18 ?_)
    | (refine wpList_store_row rfl 46 (.tmp 2) (.tmp 27) rfl (w.heap.size + 1) #[.int .i64 se, .int .i64 kd, .int .i64 co, .int .i64 nn, .int .i64 K, .int .i64 N, .float .f64 f, .slice (some ⟨g1, 0, none⟩) n n, .slice (some ⟨g2, 0, none⟩) m m, .float .f64 tot] rfl rfl 46 _ Y1.out ?s7 ?s8 ?s9 ?_))
  case s7 => exact size_rp18
  case s8 => rfl
  case s9 => simp [Value.oneCell']
  exact bodyPost_ret (results_cell_row Tryd.results21 _ _ (w.heap.size + 1) 46 _ (0, 0) _ rfl (setRow_heap _ _ _ _ _ _ Y1.out) Tryd.underlying46 rfl size_rp18) rfl ⟨g1, g2, rfl, by rw [HE.out]; exact OF.out.lo (by omega), B4.out⟩
set_option maxHeartbeats 3200000 in
theorem szReply (se kd co nn K N : Int) (f : Nat) (ad : Option Addr) (n : Nat) (c : Nat) {ar : Option Addr} {m : Nat} (cr : Nat) (tot : Nat) {es : List Im} (left : Int) {w : World} (r2 : ReadsM w ar es) (hl : es.length = m * 2) (hn : n ≤ 9223372036854775807) (hm : m ≤ 9223372036854775807) (h0 : 0 ≤ left) (h1 : left ≤ 1048576) :
    Calls Tryd.prog 19 #[.agg #[.int .i64 se, .int .i64 kd, .int .i64 co, .int .i64 nn, .int .i64 K, .int .i64 N, .float .f64 f, .slice ad n c, .slice ar m cr, .float .f64 tot], .int .i64 left] w fun e w' => e = .returned (.int .i64 (lft13 left (n + (m + sumI es)))) ∧ Below w.heap.size w w' := by
  have hst1 := fun w a m => run_store Tryd.prog w a (.float .f64 f) m rfl
  have hst2 := fun w a m => run_store Tryd.prog w a (.float .f64 tot) m rfl
  have HB := hid (Below.alloc1 w (.cells #[.int .i64 se, .int .i64 kd, .int .i64 co, .int .i64 nn, .int .i64 K, .int .i64 N, .float .f64 f, .slice ad n c, .slice ar m cr, .float .f64 tot] 41))
  have HR := hid (heap_alloc_new w (.cells #[.int .i64 se, .int .i64 kd, .int .i64 co, .int .i64 nn, .int .i64 K, .int .i64 N, .float .f64 f, .slice ad n c, .slice ar m cr, .float .f64 tot] 41))
  have HZ := hid (show w.heap.size + 1 ≤ _ from Nat.le_of_eq (alloc_size w (.cells #[.int .i64 se, .int .i64 kd, .int .i64 co, .int .i64 nn, .int .i64 K, .int .i64 N, .float .f64 f, .slice ad n c, .slice ar m cr, .float .f64 tot] 41)).symm)
  have R2 := hid r2
  clear r2
  go_enter Tryd.func19, Tryd.ntmps19
  go_wp2_with fail
  generalize w.alloc (.cells #[.int .i64 se, .int .i64 kd, .int .i64 co, .int .i64 nn, .int .i64 K, .int .i64 N, .float .f64 f, .slice ad n c, .slice ar m cr, .float .f64 tot] 41) = U0 at *
  refine (szItem K N f ad n c left hn h0 h1 _).mono ?_
  rintro e w1 ⟨rfl, b⟩
  have t0 := hid ((b.block w.heap.size (by have := HZ.out; omega)).trans HR.out)
  have HB1 := hid (HB.out.trans (b.mono (by have := HZ.out; omega)))
  clear b
  by_cases hq : left < (n : Int)
  · rw [if_pos hq]
    have HE := hid (show lft13 left (n + (m + sumI es)) = -1 by unfold lft13; rw [if_pos (by omega)])
    go_wp2_with fail
    go_ret
    exact ⟨by rw [HE.out]; rfl, HB1.out⟩
  rw [if_neg hq]
  obtain ⟨L1, hL1⟩ : ∃ L : Int, left - (n : Int) = L := ⟨_, rfl⟩
  have HL := hid hL1
  rw [hL1]
  have h10 : 0 ≤ L1 := by omega
  have h11 : L1 ≤ 1048576 := by omega
  have g10 : ¬ L1 < 0 := by omega
  clear hL1 hq
  have c8_ : w1.cell? ⟨w.heap.size, 8, none⟩ = some (.slice ar m cr) := by rw [cell_of_row _ _ _ _ _ _ t0.out]; rfl
  go_wp2_with fail
  clear c8_ g10
  refine (szPairS cr (R2.out.below HB1.out (Nat.le_refl _)) hl hm L1 h10 h11).mono ?_
  rintro e w2 ⟨rfl, b⟩
  have HB2 := hid (HB1.out.trans (b.mono HB1.out.size))
  clear b
  by_cases hq : L1 < ((m + sumI es : Nat) : Int)
  · have HE := hid (show lft13 left (n + (m + sumI es)) = -1 by unfold lft13; rw [if_pos (by have := HL.out; omega)])
    rw [show lft13 L1 (m + sumI es) = -1 by unfold lft13; rw [if_pos hq]]
    clear hq
    go_wp2_with fail
    go_ret
    exact ⟨by rw [HE.out]; rfl, HB2.out⟩
  · obtain ⟨L2, hL2⟩ : ∃ L : Int, L1 - ((m + sumI es : Nat) : Int) = L := ⟨_, rfl⟩
    have HE := hid (show lft13 left (n + (m + sumI es)) = L2 by unfold lft13; rw [if_neg (by have := HL.out; omega)]; have := HL.out; omega)
    rw [show lft13 L1 (m + sumI es) = L2 by unfold lft13; rw [if_neg hq]; exact hL2]
    have g20 : ¬ L2 < 0 := by omega
    clear hq hL2
    go_wp2_with fail
    go_ret
    exact ⟨by rw [HE.out]; rfl, HB2.out⟩
set_option maxHeartbeats 3200000 in
theorem eqReply (se kd co nn K N : Int) (f : Nat) (n m x1 x2 y1 y2 tot : Nat) {zs : List Int} {es : List Im} {w : World} (hf : f < 18446744073709551616) (ht : tot < 18446744073709551616) (r1 : Reads w (some ⟨x1, 0, none⟩) n zs) (q1 : Reads w (some ⟨y1, 0, none⟩) n zs) (r2 : ReadsM w (some ⟨x2, 0, none⟩) es) (q2 : ReadsM w (some ⟨y2, 0, none⟩) es) (hl : es.length = m * 2) (hn : n ≤ 2097152) (hm : m ≤ 2097152) (hs : sumI es ≤ 2097152) :
    Calls Tryd.prog 23 #[.agg #[.int .i64 se, .int .i64 kd, .int .i64 co, .int .i64 nn, .int .i64 K, .int .i64 N, .float .f64 f, .slice (some ⟨x1, 0, none⟩) n n, .slice (some ⟨x2, 0, none⟩) m m, .float .f64 tot], .agg #[.int .i64 se, .int .i64 kd, .int .i64 co, .int .i64 nn, .int .i64 K, .int .i64 N, .float .f64 f, .slice (some ⟨y1, 0, none⟩) n n, .slice (some ⟨y2, 0, none⟩) m m, .float .f64 tot]] w fun e w' => e = .returned (.bool true) ∧ Below w.heap.size w w' := by
  have hst1 := fun w a m => run_store Tryd.prog w a (.float .f64 f) m rfl
  have hst2 := fun w a m => run_store Tryd.prog w a (.float .f64 tot) m rfl
  have hB := two w (.cells #[.int .i64 se, .int .i64 kd, .int .i64 co, .int .i64 nn, .int .i64 K, .int .i64 N, .float .f64 f, .slice (some ⟨x1, 0, none⟩) n n, .slice (some ⟨x2, 0, none⟩) m m, .float .f64 tot] 46) (.cells #[.int .i64 se, .int .i64 kd, .int .i64 co, .int .i64 nn, .int .i64 K, .int .i64 N, .float .f64 f, .slice (some ⟨y1, 0, none⟩) n n, .slice (some ⟨y2, 0, none⟩) m m, .float .f64 tot] 46)
  obtain ⟨R1, R2, z⟩ := two_rows13 w (.cells #[.int .i64 se, .int .i64 kd, .int .i64 co, .int .i64 nn, .int .i64 K, .int .i64 N, .float .f64 f, .slice (some ⟨x1, 0, none⟩) n n, .slice (some ⟨x2, 0, none⟩) m m, .float .f64 tot] 46) (.cells #[.int .i64 se, .int .i64 kd, .int .i64 co, .int .i64 nn, .int .i64 K, .int .i64 N, .float .f64 f, .slice (some ⟨y1, 0, none⟩) n n, .slice (some ⟨y2, 0, none⟩) m m, .float .f64 tot] 46)
  have HRR := hid (And.intro r1 (And.intro q1 (And.intro r2 q2)))
  have HB := hid hB
  have HR1 := hid R1
  have HR2 := hid R2
  have HZ := hid (show w.heap.size + 2 ≤ _ from Nat.le_of_eq z.symm)
  clear hB R1 R2 z r1 q1 r2 q2
  have ese : (se != se) = false := by simp
  have ekd : (kd != kd) = false := by simp
  have eco : (co != co) = false := by simp
  have enn : (nn != nn) = false := by simp
  go_enter Tryd.func23, Tryd.ntmps23
  go_wp2_with fail
  generalize (w.alloc (.cells #[.int .i64 se, .int .i64 kd, .int .i64 co, .int .i64 nn, .int .i64 K, .int .i64 N, .float .f64 f, .slice (some ⟨x1, 0, none⟩) n n, .slice (some ⟨x2, 0, none⟩) m m, .float .f64 tot] 46)).alloc (.cells #[.int .i64 se, .int .i64 kd, .int .i64 co, .int .i64 nn, .int .i64 K, .int .i64 N, .float .f64 f, .slice (some ⟨y1, 0, none⟩) n n, .slice (some ⟨y2, 0, none⟩) m m, .float .f64 tot] 46) = U0 at *
  refine (eqItem K N f f n n hf hf (Same.refl _) (HRR.out.1.below HB.out (Nat.le_refl _)) (HRR.out.2.1.below HB.out (Nat.le_refl _)) hn).mono ?_
  rintro e w1 ⟨rfl, b⟩
  replace HR1 := hid ((b.block w.heap.size (by have := HZ.out; omega)).trans HR1.out)
  replace HR2 := hid ((b.block (w.heap.size + 1) (by have := HZ.out; omega)).trans HR2.out)
  replace HB := hid (HB.out.trans (b.mono (by have := HZ.out; omega)))
  replace HZ := hid (Nat.le_trans HZ.out b.size)
  clear b
  have c8_ : w1.cell? ⟨w.heap.size, 8, none⟩ = some (.slice (some ⟨x2, 0, none⟩) m m) := by rw [cell_of_row _ _ _ _ _ _ HR1.out]; rfl
  have e8_ : w1.cell? ⟨w.heap.size + 1, 8, none⟩ = some (.slice (some ⟨y2, 0, none⟩) m m) := by rw [cell_of_row _ _ _ _ _ _ HR2.out]; rfl
  go_wp2_with fail
  clear c8_ e8_
  refine (eqPairS m m (HRR.out.2.2.1.below HB.out (Nat.le_refl _)) (HRR.out.2.2.2.below HB.out (Nat.le_refl _)) (SameM.refl _) hl hm hs).mono ?_
  rintro e w2 ⟨rfl, b⟩
  replace HR1 := hid ((b.block w.heap.size (by have := HZ.out; omega)).trans HR1.out)
  replace HR2 := hid ((b.block (w.heap.size + 1) (by have := HZ.out; omega)).trans HR2.out)
  replace HB := hid (HB.out.trans (b.mono (by have := HZ.out; omega)))
  clear b
  have c9_ : w2.cell? ⟨w.heap.size, 9, none⟩ = some (.float .f64 tot) := by rw [cell_of_row _ _ _ _ _ _ HR1.out]; rfl
  have e9_ : w2.cell? ⟨w.heap.size + 1, 9, none⟩ = some (.float .f64 tot) := by rw [cell_of_row _ _ _ _ _ _ HR2.out]; rfl
  go_wp2_with fail
  clear c9_ e9_
  refine (sameFloat_walk tot tot ht ht (Same.refl _) _).mono ?_
  rintro e w3 ⟨rfl, e3⟩
  subst e3
  go_wp2_with fail
  go_ret
  exact ⟨rfl, HB.out⟩
set_option maxHeartbeats 3200000 in
theorem markReply (se kd co nn K N : Int) (f : Nat) (n m g1 g2 tot lo hi : Nat) {zs : List Int} {es : List Im} {w : World} (h : OwnRp w lo hi g1 g2 n m zs es) (hl : es.length = m * 2) (hn : n ≤ 2097152) (hm : m ≤ 2097152) (hs : sumI es ≤ 2097152) :
    Calls Tryd.prog 24 #[.agg #[.int .i64 se, .int .i64 kd, .int .i64 co, .int .i64 nn, .int .i64 K, .int .i64 N, .float .f64 f, .slice (some ⟨g1, 0, none⟩) n n, .slice (some ⟨g2, 0, none⟩) m m, .float .f64 tot], .int .i64 1] w fun e w' => (∃ q : Int, 0 ≤ q ∧ e = .returned (.int .i64 q)) ∧ Within lo hi w w' := by
  have hst1 := fun w a m => run_store Tryd.prog w a (.float .f64 f) m rfl
  have hst2 := fun w a m => run_store Tryd.prog w a (.float .f64 tot) m rfl
  have hb := Below.alloc1 w (.cells #[.int .i64 se, .int .i64 kd, .int .i64 co, .int .i64 nn, .int .i64 K, .int .i64 N, .float .f64 f, .slice (some ⟨g1, 0, none⟩) n n, .slice (some ⟨g2, 0, none⟩) m m, .float .f64 tot] 46)
  have HB := hid hb
  have HR := hid (heap_alloc_new w (.cells #[.int .i64 se, .int .i64 kd, .int .i64 co, .int .i64 nn, .int .i64 K, .int .i64 N, .float .f64 f, .slice (some ⟨g1, 0, none⟩) n n, .slice (some ⟨g2, 0, none⟩) m m, .float .f64 tot] 46))
  have HZ := hid (show w.heap.size + 1 ≤ _ from Nat.le_of_eq (alloc_size w (.cells #[.int .i64 se, .int .i64 kd, .int .i64 co, .int .i64 nn, .int .i64 K, .int .i64 N, .float .f64 f, .slice (some ⟨g1, 0, none⟩) n n, .slice (some ⟨g2, 0, none⟩) m m, .float .f64 tot] 46)).symm)
  have HO := hid (h.below hb)
  have HW := hid h.hw
  clear h hb
  go_enter Tryd.func24, Tryd.ntmps24
  go_wp2_with fail
  generalize w.alloc (.cells #[.int .i64 se, .int .i64 kd, .int .i64 co, .int .i64 nn, .int .i64 K, .int .i64 N, .float .f64 f, .slice (some ⟨g1, 0, none⟩) n n, .slice (some ⟨g2, 0, none⟩) m m, .float .f64 tot] 46) = U0 at *
  refine (markItem K N f 1 hn (by omega) (by omega) HO.out.tx).mono ?_
  rintro e w1 ⟨rfl, _, g⟩
  have g' : U0.grownBy w1 (some g1) := g
  have gl := HO.out.tx.lt g1 rfl
  have K1 := hid (show Keeps (fun k => lo ≤ k ∧ k < hi) U0 w1 from Keeps.grown g' (fun b hb => by cases hb; exact ⟨gl.1, HO.out.lt⟩))
  obtain ⟨md, q1, q2', om⟩ := HO.out.pr
  obtain ⟨xs, ox⟩ := om.x
  have HX := hid (ox.agree (w' := w1) (fun k a _ => g'.block k (by have := HO.out.hw; omega) (fun e => by cases e; omega)))
  have HM := hid (show lo ≤ md from q2')
  have r1 := (g'.block w.heap.size (by have := HZ.out; omega) (fun e => by cases e; have := HO.out.lt; have := HW.out; omega)).trans HR.out
  have c8_ : w1.cell? ⟨w.heap.size, 8, none⟩ = some (.slice (some ⟨g2, 0, none⟩) m m) := by rw [cell_of_row _ _ _ _ _ _ r1]; rfl
  clear g g' gl q1 q2' om ox r1
  go_wp2_with fail
  clear c8_
  refine (markPairS m (1 + (n : Int)) HX.out hl hm hs (by omega) (by omega)).mono ?_
  rintro e w2 ⟨rfl, _, k2⟩
  have HF := hid (show Within lo hi w w2 from by
    have hk := K1.out.trans (k2.mono (fun k hk => by have h8 := HX.out.inr hk; have h9 := HM.out; exact ⟨by omega, h8.2⟩) : Keeps (fun k => lo ≤ k ∧ k < hi) w1 w2)
    exact ⟨hk.os.trans HB.out.os, hk.tape.trans HB.out.tape, hk.output.trans HB.out.output, Nat.le_trans HB.out.size hk.size, fun k h1 h2 => (hk.block k (Nat.lt_of_lt_of_le h1 HB.out.size) (by omega)).trans (HB.out.block k h1)⟩)
  clear k2
  go_wp2_with fail
  go_ret
  exact ⟨⟨_, by omega, rfl⟩, HF.out⟩
end Go.Proofs.YtoppccfgcccijaaDoor
