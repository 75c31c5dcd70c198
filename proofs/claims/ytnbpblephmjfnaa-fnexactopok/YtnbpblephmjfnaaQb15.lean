/- The contracts of the laws' toOp, szOp, eqOp. Conditions: items of at most 2^21 bytes, at most 2^21 bools. -/
import Derived.Test.YtnbpblephmjfnaaEb13
import Derived.Test.YtnbpblephmjfnaaEi13
import Derived.Test.YtnbpblephmjfnaaQa15
namespace Go.Proofs.Ytnbpblephmjfnaa
open Go.RowKit
set_option maxRecDepth 100000
theorem size_op : (Try.prog.info? 33).map (·.size) = some 17 := by kernel_rfl
theorem own_readsO {w : World} {base n c g : Nat} {zs : List Int} (o : w.ownsRow base 5 1 (.slice (some ⟨g, 0, none⟩) n c) n (bys zs)) (hb : ∀ i, 0 ≤ zs.getD i 0 ∧ zs.getD i 0 ≤ 255) : Reads w (some ⟨g, 0, none⟩) n zs := by
 obtain ⟨ad, cap, e, h, _⟩ := Reads.own o hb
 cases e
 exact h
theorem ReadsB.other {w w' : World} {ad : Option Addr} {n : Nat} {zs : List Bool} (h : ReadsB w ad n zs) {row : Option Nat} (hg : w.grownBy w' row) (hne : ∀ a, ad = some a → some a.block ≠ row) : ReadsB w' ad n zs := by
 refine ⟨h.len, ?_⟩
 rcases h.cells with h0 | ⟨b, off, rfl, hc⟩
 · exact .inl h0
 · exact .inr ⟨b, off, rfl, fun i hi => hg.cell (hc i hi) (hne ⟨b, off, none⟩ rfl)⟩
theorem grown_setO (w : World) (g i : Nat) (v : Value) : w.grownBy (w.setCell ⟨g, i, none⟩ v) (some g) := ⟨rfl, rfl, rfl, by simp, fun k _ hne => heap_setCell_other _ _ _ _ (fun e => hne (by rw [e]))⟩
structure BoxO (w : World) (g : Nat) (xs : Array Value) : Prop where
 len : xs.size = 17
 ce : ∀ i, i < 17 → w.cell? ⟨g, i, none⟩ = xs[i]?
theorem BoxO.row {w : World} {g : Nat} {xs : Array Value} {t : TypeId} (h : w.heap[g]? = some (.cells xs t)) (hl : xs.size = 17) : BoxO w g xs := ⟨hl, fun i _ => by rw [cell_of_row _ _ _ _ _ _ h]⟩
theorem BoxO.lt {w : World} {g : Nat} {xs : Array Value} (h : BoxO w g xs) : g < w.heap.size := by
 have e := h.ce 0 (by omega)
 rw [Array.getElem?_eq_getElem (by rw [h.len]; omega)] at e
 exact World.block_lt_of_cell? w _ e
theorem BoxO.below {w w' : World} {g : Nat} {xs : Array Value} (h : BoxO w g xs) {B : Nat} (hb : Below B w w') (hB : w.heap.size ≤ B) : BoxO w' g xs :=
 ⟨h.len, fun i hi => (World.cell?_of_block (w := w) (a := ⟨g, i, none⟩) (hb.block g (by have := h.lt; omega))).trans (h.ce i hi)⟩
set_option maxHeartbeats 6400000 in
theorem toOp (kd se le nn : Int) (K1 N1 : Int) (f1 : Nat) {ad1 : Option Addr} {n1 : Nat} (c1 : Nat) (K2 N2 : Int) (f2 : Nat) {ad2 : Option Addr} {n2 : Nat} (c2 : Nat) (K3 N3 : Int) (f3 : Nat) {ad3 : Option Addr} {n3 : Nat} (c3 : Nat) {ab : Option Addr} {nb : Nat} (cb : Nat) {z1 z2 z3 : List Int} {bs : List Bool} {w : World} (r1 : Reads w ad1 n1 z1) (r2 : Reads w ad2 n2 z2) (r3 : Reads w ad3 n3 z3) (rb : ReadsB w ab nb bs) (hn1 : n1 ≤ 2097152) (hn2 : n2 ≤ 2097152) (hn3 : n3 ≤ 2097152) (hnb : nb ≤ 2097152) :
 Calls Try.prog 6 #[.agg #[.int .i64 kd, .int .i64 se, .int .i64 le, .int .i64 nn, .int .i64 K1, .int .i64 N1, .float .f64 f1, .slice ad1 n1 c1, .int .i64 K2, .int .i64 N2, .float .f64 f2, .slice ad2 n2 c2, .int .i64 K3, .int .i64 N3, .float .f64 f3, .slice ad3 n3 c3, .slice ab nb cb]] w fun e w' => ∃ g1 g2 g3 g4, e = .returned (.agg #[.int .i64 kd, .int .i64 se, .int .i64 le, .int .i64 nn, .int .i64 K1, .int .i64 N1, .float .f64 f1, .slice (some ⟨g1, 0, none⟩) n1 n1, .int .i64 K2, .int .i64 N2, .float .f64 f2, .slice (some ⟨g2, 0, none⟩) n2 n2, .int .i64 K3, .int .i64 N3, .float .f64 f3, .slice (some ⟨g3, 0, none⟩) n3 n3, .slice (some ⟨g4, 0, none⟩) nb nb]) ∧ Reads w' (some ⟨g1, 0, none⟩) n1 z1 ∧ Reads w' (some ⟨g2, 0, none⟩) n2 z2 ∧ Reads w' (some ⟨g3, 0, none⟩) n3 z3 ∧ ReadsB w' (some ⟨g4, 0, none⟩) nb bs ∧ Below w.heap.size w w' := by
 have hst1 := fun w a m => run_store Try.prog w a (.float .f64 f1) m rfl
 have hst2 := fun w a m => run_store Try.prog w a (.float .f64 f2) m rfl
 have hst3 := fun w a m => run_store Try.prog w a (.float .f64 f3) m rfl
 obtain ⟨z3', r1', r2', b3⟩ := three w (.cells #[.int .i64 kd, .int .i64 se, .int .i64 le, .int .i64 nn, .int .i64 K1, .int .i64 N1, .float .f64 f1, .slice ad1 n1 c1, .int .i64 K2, .int .i64 N2, .float .f64 f2, .slice ad2 n2 c2, .int .i64 K3, .int .i64 N3, .float .f64 f3, .slice ad3 n3 c3, .slice ab nb cb] 28) (.cells #[.int .i64 0, .int .i64 0, .int .i64 0, .int .i64 0, .int .i64 0, .int .i64 0, .float .f64 0, .slice none 0 0, .int .i64 0, .int .i64 0, .float .f64 0, .slice none 0 0, .int .i64 0, .int .i64 0, .float .f64 0, .slice none 0 0, .slice none 0 0] 33) (.cells #[.int .i64 kd, .int .i64 se, .int .i64 le, .int .i64 nn, .int .i64 0, .int .i64 0, .float .f64 0, .slice none 0 0, .int .i64 0, .int .i64 0, .float .f64 0, .slice none 0 0, .int .i64 0, .int .i64 0, .float .f64 0, .slice none 0 0, .slice none 0 0] 33)
 have r0' := three_first w (.cells #[.int .i64 kd, .int .i64 se, .int .i64 le, .int .i64 nn, .int .i64 K1, .int .i64 N1, .float .f64 f1, .slice ad1 n1 c1, .int .i64 K2, .int .i64 N2, .float .f64 f2, .slice ad2 n2 c2, .int .i64 K3, .int .i64 N3, .float .f64 f3, .slice ad3 n3 c3, .slice ab nb cb] 28) (.cells #[.int .i64 0, .int .i64 0, .int .i64 0, .int .i64 0, .int .i64 0, .int .i64 0, .float .f64 0, .slice none 0 0, .int .i64 0, .int .i64 0, .float .f64 0, .slice none 0 0, .int .i64 0, .int .i64 0, .float .f64 0, .slice none 0 0, .slice none 0 0] 33) (.cells #[.int .i64 kd, .int .i64 se, .int .i64 le, .int .i64 nn, .int .i64 0, .int .i64 0, .float .f64 0, .slice none 0 0, .int .i64 0, .int .i64 0, .float .f64 0, .slice none 0 0, .int .i64 0, .int .i64 0, .float .f64 0, .slice none 0 0, .slice none 0 0] 33)
 have H0 := hid r0'
 have H1 := hid r1'
 have H2 := hid r2'
 have HZ := hid (show w.heap.size + 3 ≤ _ from Nat.le_of_eq z3'.symm)
 have HB := hid b3
 have BD1 := hid r1.bd
 have BD2 := hid r2.bd
 have BD3 := hid r3.bd
 have RR := hid (And.intro r1 (And.intro r2 (And.intro r3 rb)))
 clear r0' r1' r2' z3' b3 r1 r2 r3 rb
 go_enter Try.func6, Try.ntmps6
 go_wp2_with fail
 generalize (((w.alloc (.cells #[.int .i64 kd, .int .i64 se, .int .i64 le, .int .i64 nn, .int .i64 K1, .int .i64 N1, .float .f64 f1, .slice ad1 n1 c1, .int .i64 K2, .int .i64 N2, .float .f64 f2, .slice ad2 n2 c2, .int .i64 K3, .int .i64 N3, .float .f64 f3, .slice ad3 n3 c3, .slice ab nb cb] 28)).alloc (.cells #[.int .i64 0, .int .i64 0, .int .i64 0, .int .i64 0, .int .i64 0, .int .i64 0, .float .f64 0, .slice none 0 0, .int .i64 0, .int .i64 0, .float .f64 0, .slice none 0 0, .int .i64 0, .int .i64 0, .float .f64 0, .slice none 0 0, .slice none 0 0] 33)).alloc (.cells #[.int .i64 kd, .int .i64 se, .int .i64 le, .int .i64 nn, .int .i64 0, .int .i64 0, .float .f64 0, .slice none 0 0, .int .i64 0, .int .i64 0, .float .f64 0, .slice none 0 0, .int .i64 0, .int .i64 0, .float .f64 0, .slice none 0 0, .slice none 0 0] 33)) = U0 at *
 refine (toItem K1 N1 f1 c1 (RR.out.1.below HB.out (Nat.le_refl _)) hn1).mono ?_
 rintro e w1 ⟨g1, rfl, ow, b⟩
 have z := HZ.out
 have bs0 := b.size
 have t0 := (b.block w.heap.size (by omega)).trans H0.out
 have t1 := (b.block (w.heap.size + 1) (by omega)).trans H1.out
 have t2 := (b.block (w.heap.size + 1 + 1) (by omega)).trans H2.out
 have og := ow.lt g1 rfl
 have bb := HB.out.trans (b.mono (by omega))
 have gA := row_grown13 w1 (w.heap.size + 1 + 1) #[.int .i64 kd, .int .i64 se, .int .i64 le, .int .i64 nn, .int .i64 K1, .int .i64 N1, .float .f64 f1, .slice (some ⟨g1, 0, none⟩) n1 n1, .int .i64 0, .int .i64 0, .float .f64 0, .slice none 0 0, .int .i64 0, .int .i64 0, .float .f64 0, .slice none 0 0, .slice none 0 0]
 have u2 := setRow_heap w1 (w.heap.size + 1 + 1) _ #[.int .i64 kd, .int .i64 se, .int .i64 le, .int .i64 nn, .int .i64 K1, .int .i64 N1, .float .f64 f1, .slice (some ⟨g1, 0, none⟩) n1 n1, .int .i64 0, .int .i64 0, .float .f64 0, .slice none 0 0, .int .i64 0, .int .i64 0, .float .f64 0, .slice none 0 0, .slice none 0 0] _ _ t2
 have u1 := (setRow_other w1 (w.heap.size + 1 + 1) (w.heap.size + 1) #[.int .i64 kd, .int .i64 se, .int .i64 le, .int .i64 nn, .int .i64 K1, .int .i64 N1, .float .f64 f1, .slice (some ⟨g1, 0, none⟩) n1 n1, .int .i64 0, .int .i64 0, .float .f64 0, .slice none 0 0, .int .i64 0, .int .i64 0, .float .f64 0, .slice none 0 0, .slice none 0 0] (by omega)).trans t1
 have u0 := (setRow_other w1 (w.heap.size + 1 + 1) w.heap.size #[.int .i64 kd, .int .i64 se, .int .i64 le, .int .i64 nn, .int .i64 K1, .int .i64 N1, .float .f64 f1, .slice (some ⟨g1, 0, none⟩) n1 n1, .int .i64 0, .int .i64 0, .float .f64 0, .slice none 0 0, .int .i64 0, .int .i64 0, .float .f64 0, .slice none 0 0, .slice none 0 0] (by omega)).trans t0
 have bA := below_setRow bb (show w.heap.size ≤ (w.heap.size + 1 + 1) by omega) #[.int .i64 kd, .int .i64 se, .int .i64 le, .int .i64 nn, .int .i64 K1, .int .i64 N1, .float .f64 f1, .slice (some ⟨g1, 0, none⟩) n1 n1, .int .i64 0, .int .i64 0, .float .f64 0, .slice none 0 0, .int .i64 0, .int .i64 0, .float .f64 0, .slice none 0 0, .slice none 0 0]
 have G1 := hid ((own_readsO ow BD1.out).other gA (fun a e => by cases e; simp; omega))
 have HG1 := hid (show w.heap.size + 3 ≤ g1 by omega)
 have c8_ : (w1.setRow (w.heap.size + 1 + 1) #[.int .i64 kd, .int .i64 se, .int .i64 le, .int .i64 nn, .int .i64 K1, .int .i64 N1, .float .f64 f1, .slice (some ⟨g1, 0, none⟩) n1 n1, .int .i64 0, .int .i64 0, .float .f64 0, .slice none 0 0, .int .i64 0, .int .i64 0, .float .f64 0, .slice none 0 0, .slice none 0 0]).cell? ⟨w.heap.size, 8, none⟩ = some (.int .i64 K2) := by rw [cell_of_row _ _ _ _ _ _ u0]; rfl
 have c9_ : (w1.setRow (w.heap.size + 1 + 1) #[.int .i64 kd, .int .i64 se, .int .i64 le, .int .i64 nn, .int .i64 K1, .int .i64 N1, .float .f64 f1, .slice (some ⟨g1, 0, none⟩) n1 n1, .int .i64 0, .int .i64 0, .float .f64 0, .slice none 0 0, .int .i64 0, .int .i64 0, .float .f64 0, .slice none 0 0, .slice none 0 0]).cell? ⟨w.heap.size, 9, none⟩ = some (.int .i64 N2) := by rw [cell_of_row _ _ _ _ _ _ u0]; rfl
 have c10_ : (w1.setRow (w.heap.size + 1 + 1) #[.int .i64 kd, .int .i64 se, .int .i64 le, .int .i64 nn, .int .i64 K1, .int .i64 N1, .float .f64 f1, .slice (some ⟨g1, 0, none⟩) n1 n1, .int .i64 0, .int .i64 0, .float .f64 0, .slice none 0 0, .int .i64 0, .int .i64 0, .float .f64 0, .slice none 0 0, .slice none 0 0]).cell? ⟨w.heap.size, 10, none⟩ = some (.float .f64 f2) := by rw [cell_of_row _ _ _ _ _ _ u0]; rfl
 have c11_ : (w1.setRow (w.heap.size + 1 + 1) #[.int .i64 kd, .int .i64 se, .int .i64 le, .int .i64 nn, .int .i64 K1, .int .i64 N1, .float .f64 f1, .slice (some ⟨g1, 0, none⟩) n1 n1, .int .i64 0, .int .i64 0, .float .f64 0, .slice none 0 0, .int .i64 0, .int .i64 0, .float .f64 0, .slice none 0 0, .slice none 0 0]).cell? ⟨w.heap.size, 11, none⟩ = some (.slice ad2 n2 c2) := by rw [cell_of_row _ _ _ _ _ _ u0]; rfl
 have T2 := hid t2
 replace H0 := hid u0
 replace H1 := hid u1
 replace H2 := hid u2
 replace HB := hid bA
 replace HZ := hid (show w.heap.size + 3 ≤ (w1.setRow (w.heap.size + 1 + 1) #[.int .i64 kd, .int .i64 se, .int .i64 le, .int .i64 nn, .int .i64 K1, .int .i64 N1, .float .f64 f1, .slice (some ⟨g1, 0, none⟩) n1 n1, .int .i64 0, .int .i64 0, .float .f64 0, .slice none 0 0, .int .i64 0, .int .i64 0, .float .f64 0, .slice none 0 0, .slice none 0 0]).heap.size by simp; omega)
 clear z bs0 t0 t1 t2 og bb ow b u0 u1 u2 gA bA
 go_wp2_with (refine wpList_store_part rfl 31 (.tmp 19) (.tmp 18) rfl (w.heap.size + 1 + 1) 4 #[.int .i64 K1, .int .i64 N1, .float .f64 f1, .slice (some ⟨g1, 0, none⟩) n1 n1] rfl rfl 33 _ T2.out ?s11 ?s12 ?s13 #[.int .i64 kd, .int .i64 se, .int .i64 le, .int .i64 nn, .int .i64 K1, .int .i64 N1, .float .f64 f1, .slice (some ⟨g1, 0, none⟩) n1 n1, .int .i64 0, .int .i64 0, .float .f64 0, .slice none 0 0, .int .i64 0, .int .i64 0, .float .f64 0, .slice none 0 0, .slice none 0 0] rfl ?_)
 case s11 => exact size_it13
 case s12 => simp
 case s13 => simp [Value.oneCell']
 clear c8_ c9_ c10_ c11_ T2
 generalize w1.setRow (w.heap.size + 1 + 1) #[.int .i64 kd, .int .i64 se, .int .i64 le, .int .i64 nn, .int .i64 K1, .int .i64 N1, .float .f64 f1, .slice (some ⟨g1, 0, none⟩) n1 n1, .int .i64 0, .int .i64 0, .float .f64 0, .slice none 0 0, .int .i64 0, .int .i64 0, .float .f64 0, .slice none 0 0, .slice none 0 0] = U1 at *
 refine (toItem K2 N2 f2 c2 (RR.out.2.1.below HB.out (Nat.le_refl _)) hn2).mono ?_
 rintro e w2 ⟨g2, rfl, ow, b⟩
 have z := HZ.out
 have bs0 := b.size
 have t0 := (b.block w.heap.size (by omega)).trans H0.out
 have t1 := (b.block (w.heap.size + 1) (by omega)).trans H1.out
 have t2 := (b.block (w.heap.size + 1 + 1) (by omega)).trans H2.out
 have og := ow.lt g2 rfl
 have bb := HB.out.trans (b.mono (by omega))
 have gA := row_grown13 w2 (w.heap.size + 1 + 1) #[.int .i64 kd, .int .i64 se, .int .i64 le, .int .i64 nn, .int .i64 K1, .int .i64 N1, .float .f64 f1, .slice (some ⟨g1, 0, none⟩) n1 n1, .int .i64 K2, .int .i64 N2, .float .f64 f2, .slice (some ⟨g2, 0, none⟩) n2 n2, .int .i64 0, .int .i64 0, .float .f64 0, .slice none 0 0, .slice none 0 0]
 have u2 := setRow_heap w2 (w.heap.size + 1 + 1) _ #[.int .i64 kd, .int .i64 se, .int .i64 le, .int .i64 nn, .int .i64 K1, .int .i64 N1, .float .f64 f1, .slice (some ⟨g1, 0, none⟩) n1 n1, .int .i64 K2, .int .i64 N2, .float .f64 f2, .slice (some ⟨g2, 0, none⟩) n2 n2, .int .i64 0, .int .i64 0, .float .f64 0, .slice none 0 0, .slice none 0 0] _ _ t2
 have u1 := (setRow_other w2 (w.heap.size + 1 + 1) (w.heap.size + 1) #[.int .i64 kd, .int .i64 se, .int .i64 le, .int .i64 nn, .int .i64 K1, .int .i64 N1, .float .f64 f1, .slice (some ⟨g1, 0, none⟩) n1 n1, .int .i64 K2, .int .i64 N2, .float .f64 f2, .slice (some ⟨g2, 0, none⟩) n2 n2, .int .i64 0, .int .i64 0, .float .f64 0, .slice none 0 0, .slice none 0 0] (by omega)).trans t1
 have u0 := (setRow_other w2 (w.heap.size + 1 + 1) w.heap.size #[.int .i64 kd, .int .i64 se, .int .i64 le, .int .i64 nn, .int .i64 K1, .int .i64 N1, .float .f64 f1, .slice (some ⟨g1, 0, none⟩) n1 n1, .int .i64 K2, .int .i64 N2, .float .f64 f2, .slice (some ⟨g2, 0, none⟩) n2 n2, .int .i64 0, .int .i64 0, .float .f64 0, .slice none 0 0, .slice none 0 0] (by omega)).trans t0
 have bA := below_setRow bb (show w.heap.size ≤ (w.heap.size + 1 + 1) by omega) #[.int .i64 kd, .int .i64 se, .int .i64 le, .int .i64 nn, .int .i64 K1, .int .i64 N1, .float .f64 f1, .slice (some ⟨g1, 0, none⟩) n1 n1, .int .i64 K2, .int .i64 N2, .float .f64 f2, .slice (some ⟨g2, 0, none⟩) n2 n2, .int .i64 0, .int .i64 0, .float .f64 0, .slice none 0 0, .slice none 0 0]
 replace G1 := hid ((G1.out.below b (Nat.le_refl _)).other gA (fun a e => by cases e; have := HG1.out; simp; omega))
 have G2 := hid ((own_readsO ow BD2.out).other gA (fun a e => by cases e; simp; omega))
 have HG2 := hid (show w.heap.size + 3 ≤ g2 by omega)
 have c12_ : (w2.setRow (w.heap.size + 1 + 1) #[.int .i64 kd, .int .i64 se, .int .i64 le, .int .i64 nn, .int .i64 K1, .int .i64 N1, .float .f64 f1, .slice (some ⟨g1, 0, none⟩) n1 n1, .int .i64 K2, .int .i64 N2, .float .f64 f2, .slice (some ⟨g2, 0, none⟩) n2 n2, .int .i64 0, .int .i64 0, .float .f64 0, .slice none 0 0, .slice none 0 0]).cell? ⟨w.heap.size, 12, none⟩ = some (.int .i64 K3) := by rw [cell_of_row _ _ _ _ _ _ u0]; rfl
 have c13_ : (w2.setRow (w.heap.size + 1 + 1) #[.int .i64 kd, .int .i64 se, .int .i64 le, .int .i64 nn, .int .i64 K1, .int .i64 N1, .float .f64 f1, .slice (some ⟨g1, 0, none⟩) n1 n1, .int .i64 K2, .int .i64 N2, .float .f64 f2, .slice (some ⟨g2, 0, none⟩) n2 n2, .int .i64 0, .int .i64 0, .float .f64 0, .slice none 0 0, .slice none 0 0]).cell? ⟨w.heap.size, 13, none⟩ = some (.int .i64 N3) := by rw [cell_of_row _ _ _ _ _ _ u0]; rfl
 have c14_ : (w2.setRow (w.heap.size + 1 + 1) #[.int .i64 kd, .int .i64 se, .int .i64 le, .int .i64 nn, .int .i64 K1, .int .i64 N1, .float .f64 f1, .slice (some ⟨g1, 0, none⟩) n1 n1, .int .i64 K2, .int .i64 N2, .float .f64 f2, .slice (some ⟨g2, 0, none⟩) n2 n2, .int .i64 0, .int .i64 0, .float .f64 0, .slice none 0 0, .slice none 0 0]).cell? ⟨w.heap.size, 14, none⟩ = some (.float .f64 f3) := by rw [cell_of_row _ _ _ _ _ _ u0]; rfl
 have c15_ : (w2.setRow (w.heap.size + 1 + 1) #[.int .i64 kd, .int .i64 se, .int .i64 le, .int .i64 nn, .int .i64 K1, .int .i64 N1, .float .f64 f1, .slice (some ⟨g1, 0, none⟩) n1 n1, .int .i64 K2, .int .i64 N2, .float .f64 f2, .slice (some ⟨g2, 0, none⟩) n2 n2, .int .i64 0, .int .i64 0, .float .f64 0, .slice none 0 0, .slice none 0 0]).cell? ⟨w.heap.size, 15, none⟩ = some (.slice ad3 n3 c3) := by rw [cell_of_row _ _ _ _ _ _ u0]; rfl
 have T2 := hid t2
 replace H0 := hid u0
 replace H1 := hid u1
 replace H2 := hid u2
 replace HB := hid bA
 replace HZ := hid (show w.heap.size + 3 ≤ (w2.setRow (w.heap.size + 1 + 1) #[.int .i64 kd, .int .i64 se, .int .i64 le, .int .i64 nn, .int .i64 K1, .int .i64 N1, .float .f64 f1, .slice (some ⟨g1, 0, none⟩) n1 n1, .int .i64 K2, .int .i64 N2, .float .f64 f2, .slice (some ⟨g2, 0, none⟩) n2 n2, .int .i64 0, .int .i64 0, .float .f64 0, .slice none 0 0, .slice none 0 0]).heap.size by simp; omega)
 clear z bs0 t0 t1 t2 og bb ow b u0 u1 u2 gA bA
 go_wp2_with (refine wpList_store_part rfl 31 (.tmp 23) (.tmp 22) rfl (w.heap.size + 1 + 1) 8 #[.int .i64 K2, .int .i64 N2, .float .f64 f2, .slice (some ⟨g2, 0, none⟩) n2 n2] rfl rfl 33 _ T2.out ?s21 ?s22 ?s23 #[.int .i64 kd, .int .i64 se, .int .i64 le, .int .i64 nn, .int .i64 K1, .int .i64 N1, .float .f64 f1, .slice (some ⟨g1, 0, none⟩) n1 n1, .int .i64 K2, .int .i64 N2, .float .f64 f2, .slice (some ⟨g2, 0, none⟩) n2 n2, .int .i64 0, .int .i64 0, .float .f64 0, .slice none 0 0, .slice none 0 0] rfl ?_)
 case s21 => exact size_it13
 case s22 => simp
 case s23 => simp [Value.oneCell']
 clear c12_ c13_ c14_ c15_ T2
 generalize w2.setRow (w.heap.size + 1 + 1) #[.int .i64 kd, .int .i64 se, .int .i64 le, .int .i64 nn, .int .i64 K1, .int .i64 N1, .float .f64 f1, .slice (some ⟨g1, 0, none⟩) n1 n1, .int .i64 K2, .int .i64 N2, .float .f64 f2, .slice (some ⟨g2, 0, none⟩) n2 n2, .int .i64 0, .int .i64 0, .float .f64 0, .slice none 0 0, .slice none 0 0] = U2 at *
 refine (toItem K3 N3 f3 c3 (RR.out.2.2.1.below HB.out (Nat.le_refl _)) hn3).mono ?_
 rintro e w3 ⟨g3, rfl, ow, b⟩
 have z := HZ.out
 have bs0 := b.size
 have t0 := (b.block w.heap.size (by omega)).trans H0.out
 have t1 := (b.block (w.heap.size + 1) (by omega)).trans H1.out
 have t2 := (b.block (w.heap.size + 1 + 1) (by omega)).trans H2.out
 have og := ow.lt g3 rfl
 have bb := HB.out.trans (b.mono (by omega))
 have gA := row_grown13 w3 (w.heap.size + 1 + 1) #[.int .i64 kd, .int .i64 se, .int .i64 le, .int .i64 nn, .int .i64 K1, .int .i64 N1, .float .f64 f1, .slice (some ⟨g1, 0, none⟩) n1 n1, .int .i64 K2, .int .i64 N2, .float .f64 f2, .slice (some ⟨g2, 0, none⟩) n2 n2, .int .i64 K3, .int .i64 N3, .float .f64 f3, .slice (some ⟨g3, 0, none⟩) n3 n3, .slice none 0 0]
 have u2 := setRow_heap w3 (w.heap.size + 1 + 1) _ #[.int .i64 kd, .int .i64 se, .int .i64 le, .int .i64 nn, .int .i64 K1, .int .i64 N1, .float .f64 f1, .slice (some ⟨g1, 0, none⟩) n1 n1, .int .i64 K2, .int .i64 N2, .float .f64 f2, .slice (some ⟨g2, 0, none⟩) n2 n2, .int .i64 K3, .int .i64 N3, .float .f64 f3, .slice (some ⟨g3, 0, none⟩) n3 n3, .slice none 0 0] _ _ t2
 have u1 := (setRow_other w3 (w.heap.size + 1 + 1) (w.heap.size + 1) #[.int .i64 kd, .int .i64 se, .int .i64 le, .int .i64 nn, .int .i64 K1, .int .i64 N1, .float .f64 f1, .slice (some ⟨g1, 0, none⟩) n1 n1, .int .i64 K2, .int .i64 N2, .float .f64 f2, .slice (some ⟨g2, 0, none⟩) n2 n2, .int .i64 K3, .int .i64 N3, .float .f64 f3, .slice (some ⟨g3, 0, none⟩) n3 n3, .slice none 0 0] (by omega)).trans t1
 have u0 := (setRow_other w3 (w.heap.size + 1 + 1) w.heap.size #[.int .i64 kd, .int .i64 se, .int .i64 le, .int .i64 nn, .int .i64 K1, .int .i64 N1, .float .f64 f1, .slice (some ⟨g1, 0, none⟩) n1 n1, .int .i64 K2, .int .i64 N2, .float .f64 f2, .slice (some ⟨g2, 0, none⟩) n2 n2, .int .i64 K3, .int .i64 N3, .float .f64 f3, .slice (some ⟨g3, 0, none⟩) n3 n3, .slice none 0 0] (by omega)).trans t0
 have bA := below_setRow bb (show w.heap.size ≤ (w.heap.size + 1 + 1) by omega) #[.int .i64 kd, .int .i64 se, .int .i64 le, .int .i64 nn, .int .i64 K1, .int .i64 N1, .float .f64 f1, .slice (some ⟨g1, 0, none⟩) n1 n1, .int .i64 K2, .int .i64 N2, .float .f64 f2, .slice (some ⟨g2, 0, none⟩) n2 n2, .int .i64 K3, .int .i64 N3, .float .f64 f3, .slice (some ⟨g3, 0, none⟩) n3 n3, .slice none 0 0]
 replace G1 := hid ((G1.out.below b (Nat.le_refl _)).other gA (fun a e => by cases e; have := HG1.out; simp; omega))
 replace G2 := hid ((G2.out.below b (Nat.le_refl _)).other gA (fun a e => by cases e; have := HG2.out; simp; omega))
 have G3 := hid ((own_readsO ow BD3.out).other gA (fun a e => by cases e; simp; omega))
 have HG3 := hid (show w.heap.size + 3 ≤ g3 by omega)
 have c16_ : (w3.setRow (w.heap.size + 1 + 1) #[.int .i64 kd, .int .i64 se, .int .i64 le, .int .i64 nn, .int .i64 K1, .int .i64 N1, .float .f64 f1, .slice (some ⟨g1, 0, none⟩) n1 n1, .int .i64 K2, .int .i64 N2, .float .f64 f2, .slice (some ⟨g2, 0, none⟩) n2 n2, .int .i64 K3, .int .i64 N3, .float .f64 f3, .slice (some ⟨g3, 0, none⟩) n3 n3, .slice none 0 0]).cell? ⟨w.heap.size, 16, none⟩ = some (.slice ab nb cb) := by rw [cell_of_row _ _ _ _ _ _ u0]; rfl
 have T2 := hid t2
 replace H0 := hid u0
 replace H1 := hid u1
 replace H2 := hid u2
 replace HB := hid bA
 replace HZ := hid (show w.heap.size + 3 ≤ (w3.setRow (w.heap.size + 1 + 1) #[.int .i64 kd, .int .i64 se, .int .i64 le, .int .i64 nn, .int .i64 K1, .int .i64 N1, .float .f64 f1, .slice (some ⟨g1, 0, none⟩) n1 n1, .int .i64 K2, .int .i64 N2, .float .f64 f2, .slice (some ⟨g2, 0, none⟩) n2 n2, .int .i64 K3, .int .i64 N3, .float .f64 f3, .slice (some ⟨g3, 0, none⟩) n3 n3, .slice none 0 0]).heap.size by simp; omega)
 clear z bs0 t0 t1 t2 og bb ow b u0 u1 u2 gA bA
 go_wp2_with (refine wpList_store_part rfl 31 (.tmp 27) (.tmp 26) rfl (w.heap.size + 1 + 1) 12 #[.int .i64 K3, .int .i64 N3, .float .f64 f3, .slice (some ⟨g3, 0, none⟩) n3 n3] rfl rfl 33 _ T2.out ?s31 ?s32 ?s33 #[.int .i64 kd, .int .i64 se, .int .i64 le, .int .i64 nn, .int .i64 K1, .int .i64 N1, .float .f64 f1, .slice (some ⟨g1, 0, none⟩) n1 n1, .int .i64 K2, .int .i64 N2, .float .f64 f2, .slice (some ⟨g2, 0, none⟩) n2 n2, .int .i64 K3, .int .i64 N3, .float .f64 f3, .slice (some ⟨g3, 0, none⟩) n3 n3, .slice none 0 0] rfl ?_)
 case s31 => exact size_it13
 case s32 => simp
 case s33 => simp [Value.oneCell']
 clear c16_ T2
 generalize w3.setRow (w.heap.size + 1 + 1) #[.int .i64 kd, .int .i64 se, .int .i64 le, .int .i64 nn, .int .i64 K1, .int .i64 N1, .float .f64 f1, .slice (some ⟨g1, 0, none⟩) n1 n1, .int .i64 K2, .int .i64 N2, .float .f64 f2, .slice (some ⟨g2, 0, none⟩) n2 n2, .int .i64 K3, .int .i64 N3, .float .f64 f3, .slice (some ⟨g3, 0, none⟩) n3 n3, .slice none 0 0] = U3 at *
 refine (toBoolS_any cb (RR.out.2.2.2.below HB.out (Nat.le_refl _)) hnb).mono ?_
 rintro e w4 ⟨rfl, ow, b⟩
 obtain ⟨g4, hg4⟩ : ∃ g, U3.heap.size = g := ⟨_, rfl⟩
 have HG4 := hid hg4
 rw [hg4] at ow
 try simp only [hg4]
 clear hg4
 have z := HZ.out
 have bs0 := b.size
 have t0 := (b.block w.heap.size (by omega)).trans H0.out
 have t1 := (b.block (w.heap.size + 1) (by omega)).trans H1.out
 have t2 := (b.block (w.heap.size + 1 + 1) (by omega)).trans H2.out
 have og := ow.lt g4 rfl
 have hg4 := HG4.out
 have bb := HB.out.trans (b.mono (by omega))
 have dz1 : w4.cell? ⟨(w.heap.size + 1 + 1), 16, none⟩ = some (.slice none 0 0) := by rw [cell_of_row _ _ _ _ _ _ t2]; rfl
 have fz1 : w4.frozen? ⟨(w.heap.size + 1 + 1), 16, none⟩ = false := frozen_of_row _ _ _ _ _ t2
 have gA := grown_setO w4 (w.heap.size + 1 + 1) 16 (.slice (some ⟨g4, 0, none⟩) nb nb)
 have u2 := heap_setCell_same w4 (w.heap.size + 1 + 1) 16 _ 33 (.slice (some ⟨g4, 0, none⟩) nb nb) t2
 have u1 := (heap_setCell_other w4 ⟨(w.heap.size + 1 + 1), 16, none⟩ (w.heap.size + 1) (.slice (some ⟨g4, 0, none⟩) nb nb) (by simp)).trans t1
 have bA := bb.setCell (p := ⟨(w.heap.size + 1 + 1), 16, none⟩) (by simp; omega) (.slice (some ⟨g4, 0, none⟩) nb nb)
 replace G1 := hid ((G1.out.below b (Nat.le_refl _)).other gA (fun a e => by cases e; have := HG1.out; simp; omega))
 replace G2 := hid ((G2.out.below b (Nat.le_refl _)).other gA (fun a e => by cases e; have := HG2.out; simp; omega))
 replace G3 := hid ((G3.out.below b (Nat.le_refl _)).other gA (fun a e => by cases e; have := HG3.out; simp; omega))
 have G4 := hid ((ReadsB.own ow).other gA (fun a e => by cases e; simp; omega))
 have HG5 := hid (show w.heap.size + 3 ≤ g4 by omega)
 have Y1 := hid u1
 have Y2 := hid u2
 replace G1 := hid (G1.out.other (row_grown13 (w4.setCell ⟨(w.heap.size + 1 + 1), 16, none⟩ (.slice (some ⟨g4, 0, none⟩) nb nb)) (w.heap.size + 1) #[.int .i64 kd, .int .i64 se, .int .i64 le, .int .i64 nn, .int .i64 K1, .int .i64 N1, .float .f64 f1, .slice (some ⟨g1, 0, none⟩) n1 n1, .int .i64 K2, .int .i64 N2, .float .f64 f2, .slice (some ⟨g2, 0, none⟩) n2 n2, .int .i64 K3, .int .i64 N3, .float .f64 f3, .slice (some ⟨g3, 0, none⟩) n3 n3, .slice (some ⟨g4, 0, none⟩) nb nb]) (fun a e => by cases e; have := HG1.out; simp; omega))
 replace G2 := hid (G2.out.other (row_grown13 (w4.setCell ⟨(w.heap.size + 1 + 1), 16, none⟩ (.slice (some ⟨g4, 0, none⟩) nb nb)) (w.heap.size + 1) #[.int .i64 kd, .int .i64 se, .int .i64 le, .int .i64 nn, .int .i64 K1, .int .i64 N1, .float .f64 f1, .slice (some ⟨g1, 0, none⟩) n1 n1, .int .i64 K2, .int .i64 N2, .float .f64 f2, .slice (some ⟨g2, 0, none⟩) n2 n2, .int .i64 K3, .int .i64 N3, .float .f64 f3, .slice (some ⟨g3, 0, none⟩) n3 n3, .slice (some ⟨g4, 0, none⟩) nb nb]) (fun a e => by cases e; have := HG2.out; simp; omega))
 replace G3 := hid (G3.out.other (row_grown13 (w4.setCell ⟨(w.heap.size + 1 + 1), 16, none⟩ (.slice (some ⟨g4, 0, none⟩) nb nb)) (w.heap.size + 1) #[.int .i64 kd, .int .i64 se, .int .i64 le, .int .i64 nn, .int .i64 K1, .int .i64 N1, .float .f64 f1, .slice (some ⟨g1, 0, none⟩) n1 n1, .int .i64 K2, .int .i64 N2, .float .f64 f2, .slice (some ⟨g2, 0, none⟩) n2 n2, .int .i64 K3, .int .i64 N3, .float .f64 f3, .slice (some ⟨g3, 0, none⟩) n3 n3, .slice (some ⟨g4, 0, none⟩) nb nb]) (fun a e => by cases e; have := HG3.out; simp; omega))
 replace G4 := hid (G4.out.other (row_grown13 (w4.setCell ⟨(w.heap.size + 1 + 1), 16, none⟩ (.slice (some ⟨g4, 0, none⟩) nb nb)) (w.heap.size + 1) #[.int .i64 kd, .int .i64 se, .int .i64 le, .int .i64 nn, .int .i64 K1, .int .i64 N1, .float .f64 f1, .slice (some ⟨g1, 0, none⟩) n1 n1, .int .i64 K2, .int .i64 N2, .float .f64 f2, .slice (some ⟨g2, 0, none⟩) n2 n2, .int .i64 K3, .int .i64 N3, .float .f64 f3, .slice (some ⟨g3, 0, none⟩) n3 n3, .slice (some ⟨g4, 0, none⟩) nb nb]) (fun a e => by cases e; have := HG5.out; simp; omega))
 have B4 := hid (below_setRow bA (show w.heap.size ≤ (w.heap.size + 1) by omega) #[.int .i64 kd, .int .i64 se, .int .i64 le, .int .i64 nn, .int .i64 K1, .int .i64 N1, .float .f64 f1, .slice (some ⟨g1, 0, none⟩) n1 n1, .int .i64 K2, .int .i64 N2, .float .f64 f2, .slice (some ⟨g2, 0, none⟩) n2 n2, .int .i64 K3, .int .i64 N3, .float .f64 f3, .slice (some ⟨g3, 0, none⟩) n3 n3, .slice (some ⟨g4, 0, none⟩) nb nb])
 clear z bs0 t0 t1 t2 og bb ow b u1 u2 gA bA H0 H1 H2 HB hg4
 go_wp2_with (first
  | (refine wpList_load_row rfl 33 (.tmp 3) rfl (w.heap.size + 1 + 1) rfl 33 _ (0, 0) _ Y2.out Try.underlying33 rfl size_op ?_)
  | (refine wpList_store_row rfl 33 (.tmp 2) (.tmp 32) rfl (w.heap.size + 1) #[.int .i64 kd, .int .i64 se, .int .i64 le, .int .i64 nn, .int .i64 K1, .int .i64 N1, .float .f64 f1, .slice (some ⟨g1, 0, none⟩) n1 n1, .int .i64 K2, .int .i64 N2, .float .f64 f2, .slice (some ⟨g2, 0, none⟩) n2 n2, .int .i64 K3, .int .i64 N3, .float .f64 f3, .slice (some ⟨g3, 0, none⟩) n3 n3, .slice (some ⟨g4, 0, none⟩) nb nb] rfl rfl 33 _ Y1.out ?s7 ?s8 ?s9 ?_))
 case s7 => exact size_op
 case s8 => rfl
 case s9 => simp [Value.oneCell']
 exact bodyPost_ret (results_cell_row Try.results6 _ _ (w.heap.size + 1) 33 _ (0, 0) _ rfl (setRow_heap _ _ _ _ _ _ Y1.out) Try.underlying33 rfl size_op) rfl ⟨g1, g2, g3, g4, rfl, G1.out, G2.out, G3.out, G4.out, B4.out⟩
set_option maxHeartbeats 3200000 in
theorem szOp (kd se le nn : Int) (K1 N1 : Int) (f1 : Nat) (ad1 : Option Addr) (n1 c1 : Nat) (K2 N2 : Int) (f2 : Nat) (ad2 : Option Addr) (n2 c2 : Nat) (K3 N3 : Int) (f3 : Nat) (ad3 : Option Addr) (n3 c3 : Nat) (ab : Option Addr) (nb cb : Nat) (left : Int) (hn1 : n1 ≤ 9223372036854775807) (hn2 : n2 ≤ 9223372036854775807) (hn3 : n3 ≤ 9223372036854775807) (hnb : nb ≤ 9223372036854775807) (h0 : 0 ≤ left) (h1 : left ≤ 1048576) (w : World) :
 Calls Try.prog 4 #[.agg #[.int .i64 kd, .int .i64 se, .int .i64 le, .int .i64 nn, .int .i64 K1, .int .i64 N1, .float .f64 f1, .slice ad1 n1 c1, .int .i64 K2, .int .i64 N2, .float .f64 f2, .slice ad2 n2 c2, .int .i64 K3, .int .i64 N3, .float .f64 f3, .slice ad3 n3 c3, .slice ab nb cb], .int .i64 left] w fun e w' => e = .returned (.int .i64 (lft13 left (n1 + n2 + n3 + nb))) ∧ Below w.heap.size w w' := by
 have hst1 := fun w a m => run_store Try.prog w a (.float .f64 f1) m rfl
 have hst2 := fun w a m => run_store Try.prog w a (.float .f64 f2) m rfl
 have hst3 := fun w a m => run_store Try.prog w a (.float .f64 f3) m rfl
 have HB := hid (Below.alloc1 w (.cells #[.int .i64 kd, .int .i64 se, .int .i64 le, .int .i64 nn, .int .i64 K1, .int .i64 N1, .float .f64 f1, .slice ad1 n1 c1, .int .i64 K2, .int .i64 N2, .float .f64 f2, .slice ad2 n2 c2, .int .i64 K3, .int .i64 N3, .float .f64 f3, .slice ad3 n3 c3, .slice ab nb cb] 28))
 have HR := hid (heap_alloc_new w (.cells #[.int .i64 kd, .int .i64 se, .int .i64 le, .int .i64 nn, .int .i64 K1, .int .i64 N1, .float .f64 f1, .slice ad1 n1 c1, .int .i64 K2, .int .i64 N2, .float .f64 f2, .slice ad2 n2 c2, .int .i64 K3, .int .i64 N3, .float .f64 f3, .slice ad3 n3 c3, .slice ab nb cb] 28))
 have HZ := hid (show w.heap.size + 1 ≤ _ from Nat.le_of_eq (alloc_size w (.cells #[.int .i64 kd, .int .i64 se, .int .i64 le, .int .i64 nn, .int .i64 K1, .int .i64 N1, .float .f64 f1, .slice ad1 n1 c1, .int .i64 K2, .int .i64 N2, .float .f64 f2, .slice ad2 n2 c2, .int .i64 K3, .int .i64 N3, .float .f64 f3, .slice ad3 n3 c3, .slice ab nb cb] 28)).symm)
 go_enter Try.func4, Try.ntmps4
 go_wp2_with fail
 generalize w.alloc (.cells #[.int .i64 kd, .int .i64 se, .int .i64 le, .int .i64 nn, .int .i64 K1, .int .i64 N1, .float .f64 f1, .slice ad1 n1 c1, .int .i64 K2, .int .i64 N2, .float .f64 f2, .slice ad2 n2 c2, .int .i64 K3, .int .i64 N3, .float .f64 f3, .slice ad3 n3 c3, .slice ab nb cb] 28) = U0 at *
 obtain ⟨L0, hL0⟩ : ∃ L : Int, left = L := ⟨_, rfl⟩
 have HS0 := hid (show left - 0 = L0 by omega)
 rw [hL0]
 have h00 : 0 ≤ L0 := by omega
 have h01 : L0 ≤ 1048576 := by omega
 clear hL0
 refine (szItem K1 N1 f1 ad1 n1 c1 L0 hn1 h00 h01 _).mono ?_
 rintro e w1 ⟨rfl, b⟩
 have t0 := hid ((b.block w.heap.size (by have := HZ.out; omega)).trans HR.out)
 replace HB := hid (HB.out.trans (b.mono (by have := HZ.out; omega)))
 replace HZ := hid (Nat.le_trans HZ.out b.size)
 replace HR := t0
 clear t0 b
 by_cases hq1 : L0 < (n1 : Int)
 · rw [if_pos hq1]
   have HE := hid (show lft13 left (n1 + n2 + n3 + nb) = -1 by unfold lft13; rw [if_pos (by have := HS0.out; omega)])
   go_wp2_with fail
   go_ret
   exact ⟨by rw [HE.out]; rfl, HB.out⟩
 rw [if_neg hq1]
 obtain ⟨L1, hL1⟩ : ∃ L : Int, L0 - (n1 : Int) = L := ⟨_, rfl⟩
 have HS1 := hid (show left - ((n1 : Nat) : Int) = L1 by have := HS0.out; omega)
 rw [hL1]
 have h10 : 0 ≤ L1 := by omega
 have h11 : L1 ≤ 1048576 := by omega
 have g10 : ¬ L1 < 0 := by omega
 clear hL1 hq1
 have c8_ : w1.cell? ⟨w.heap.size, 8, none⟩ = some (.int .i64 K2) := by rw [cell_of_row _ _ _ _ _ _ HR.out]; rfl
 have c9_ : w1.cell? ⟨w.heap.size, 9, none⟩ = some (.int .i64 N2) := by rw [cell_of_row _ _ _ _ _ _ HR.out]; rfl
 have c10_ : w1.cell? ⟨w.heap.size, 10, none⟩ = some (.float .f64 f2) := by rw [cell_of_row _ _ _ _ _ _ HR.out]; rfl
 have c11_ : w1.cell? ⟨w.heap.size, 11, none⟩ = some (.slice ad2 n2 c2) := by rw [cell_of_row _ _ _ _ _ _ HR.out]; rfl
 go_wp2_with fail
 clear c8_ c9_ c10_ c11_ g10
 refine (szItem K2 N2 f2 ad2 n2 c2 L1 hn2 h10 h11 _).mono ?_
 rintro e w2 ⟨rfl, b⟩
 have t0 := hid ((b.block w.heap.size (by have := HZ.out; omega)).trans HR.out)
 replace HB := hid (HB.out.trans (b.mono (by have := HZ.out; omega)))
 replace HZ := hid (Nat.le_trans HZ.out b.size)
 replace HR := t0
 clear t0 b
 by_cases hq2 : L1 < (n2 : Int)
 · rw [if_pos hq2]
   have HE := hid (show lft13 left (n1 + n2 + n3 + nb) = -1 by unfold lft13; rw [if_pos (by have := HS1.out; omega)])
   go_wp2_with fail
   go_ret
   exact ⟨by rw [HE.out]; rfl, HB.out⟩
 rw [if_neg hq2]
 obtain ⟨L2, hL2⟩ : ∃ L : Int, L1 - (n2 : Int) = L := ⟨_, rfl⟩
 have HS2 := hid (show left - ((n1 + n2 : Nat) : Int) = L2 by have := HS1.out; omega)
 rw [hL2]
 have h20 : 0 ≤ L2 := by omega
 have h21 : L2 ≤ 1048576 := by omega
 have g20 : ¬ L2 < 0 := by omega
 clear hL2 hq2
 have c12_ : w2.cell? ⟨w.heap.size, 12, none⟩ = some (.int .i64 K3) := by rw [cell_of_row _ _ _ _ _ _ HR.out]; rfl
 have c13_ : w2.cell? ⟨w.heap.size, 13, none⟩ = some (.int .i64 N3) := by rw [cell_of_row _ _ _ _ _ _ HR.out]; rfl
 have c14_ : w2.cell? ⟨w.heap.size, 14, none⟩ = some (.float .f64 f3) := by rw [cell_of_row _ _ _ _ _ _ HR.out]; rfl
 have c15_ : w2.cell? ⟨w.heap.size, 15, none⟩ = some (.slice ad3 n3 c3) := by rw [cell_of_row _ _ _ _ _ _ HR.out]; rfl
 go_wp2_with fail
 clear c12_ c13_ c14_ c15_ g20
 refine (szItem K3 N3 f3 ad3 n3 c3 L2 hn3 h20 h21 _).mono ?_
 rintro e w3 ⟨rfl, b⟩
 have t0 := hid ((b.block w.heap.size (by have := HZ.out; omega)).trans HR.out)
 replace HB := hid (HB.out.trans (b.mono (by have := HZ.out; omega)))
 replace HZ := hid (Nat.le_trans HZ.out b.size)
 replace HR := t0
 clear t0 b
 by_cases hq3 : L2 < (n3 : Int)
 · rw [if_pos hq3]
   have HE := hid (show lft13 left (n1 + n2 + n3 + nb) = -1 by unfold lft13; rw [if_pos (by have := HS2.out; omega)])
   go_wp2_with fail
   go_ret
   exact ⟨by rw [HE.out]; rfl, HB.out⟩
 rw [if_neg hq3]
 obtain ⟨L3, hL3⟩ : ∃ L : Int, L2 - (n3 : Int) = L := ⟨_, rfl⟩
 have HS3 := hid (show left - ((n1 + n2 + n3 : Nat) : Int) = L3 by have := HS2.out; omega)
 rw [hL3]
 have h30 : 0 ≤ L3 := by omega
 have h31 : L3 ≤ 1048576 := by omega
 have g30 : ¬ L3 < 0 := by omega
 clear hL3 hq3
 have c16_ : w3.cell? ⟨w.heap.size, 16, none⟩ = some (.slice ab nb cb) := by rw [cell_of_row _ _ _ _ _ _ HR.out]; rfl
 go_wp2_with fail
 clear c16_ g30
 refine (szBoolS ab nb cb L3 hnb h30 h31 _).mono ?_
 rintro e w4 ⟨rfl, rfl⟩
 by_cases hq4 : L3 < (nb : Int)
 · rw [if_pos hq4]
   have HE := hid (show lft13 left (n1 + n2 + n3 + nb) = -1 by unfold lft13; rw [if_pos (by have := HS3.out; omega)])
   go_wp2_with fail
   go_ret
   exact ⟨by rw [HE.out]; rfl, HB.out⟩
 rw [if_neg hq4]
 obtain ⟨L4, hL4⟩ : ∃ L : Int, L3 - (nb : Int) = L := ⟨_, rfl⟩
 have HS4 := hid (show left - ((n1 + n2 + n3 + nb : Nat) : Int) = L4 by have := HS3.out; omega)
 rw [hL4]
 have h40 : 0 ≤ L4 := by omega
 have h41 : L4 ≤ 1048576 := by omega
 have g40 : ¬ L4 < 0 := by omega
 clear hL4 hq4
 have HE := hid (show lft13 left (n1 + n2 + n3 + nb) = L4 by unfold lft13; rw [if_neg (by have := HS4.out; omega)]; exact HS4.out)
 go_wp2_with fail
 go_ret
 exact ⟨by rw [HE.out]; rfl, HB.out⟩
set_option maxHeartbeats 3200000 in
theorem eqOp (kd se le nn : Int) (K1 N1 : Int) (f1 : Nat) {x1 y1 : Option Addr} {n1 : Nat} (c1 d1 : Nat) (K2 N2 : Int) (f2 : Nat) {x2 y2 : Option Addr} {n2 : Nat} (c2 d2 : Nat) (K3 N3 : Int) (f3 : Nat) {x3 y3 : Option Addr} {n3 : Nat} (c3 d3 : Nat) {xb yb : Option Addr} {nb : Nat} (cb db : Nat) {z1 z2 z3 : List Int} {bs : List Bool} {w : World} (hf1 : f1 < 18446744073709551616) (hf2 : f2 < 18446744073709551616) (hf3 : f3 < 18446744073709551616) (r1 : Reads w x1 n1 z1) (q1 : Reads w y1 n1 z1) (r2 : Reads w x2 n2 z2) (q2 : Reads w y2 n2 z2) (r3 : Reads w x3 n3 z3) (q3 : Reads w y3 n3 z3) (rb : ReadsB w xb nb bs) (qb : ReadsB w yb nb bs) (hn1 : n1 ≤ 2097152) (hn2 : n2 ≤ 2097152) (hn3 : n3 ≤ 2097152) (hnb : nb ≤ 2097152) :
 Calls Try.prog 8 #[.agg #[.int .i64 kd, .int .i64 se, .int .i64 le, .int .i64 nn, .int .i64 K1, .int .i64 N1, .float .f64 f1, .slice x1 n1 c1, .int .i64 K2, .int .i64 N2, .float .f64 f2, .slice x2 n2 c2, .int .i64 K3, .int .i64 N3, .float .f64 f3, .slice x3 n3 c3, .slice xb nb cb], .agg #[.int .i64 kd, .int .i64 se, .int .i64 le, .int .i64 nn, .int .i64 K1, .int .i64 N1, .float .f64 f1, .slice y1 n1 d1, .int .i64 K2, .int .i64 N2, .float .f64 f2, .slice y2 n2 d2, .int .i64 K3, .int .i64 N3, .float .f64 f3, .slice y3 n3 d3, .slice yb nb db]] w fun e w' => e = .returned (.bool true) ∧ Below w.heap.size w w' := by
 have hst1 := fun w a m => run_store Try.prog w a (.float .f64 f1) m rfl
 have hst2 := fun w a m => run_store Try.prog w a (.float .f64 f2) m rfl
 have hst3 := fun w a m => run_store Try.prog w a (.float .f64 f3) m rfl
 have hB := two w (.cells #[.int .i64 kd, .int .i64 se, .int .i64 le, .int .i64 nn, .int .i64 K1, .int .i64 N1, .float .f64 f1, .slice x1 n1 c1, .int .i64 K2, .int .i64 N2, .float .f64 f2, .slice x2 n2 c2, .int .i64 K3, .int .i64 N3, .float .f64 f3, .slice x3 n3 c3, .slice xb nb cb] 33) (.cells #[.int .i64 kd, .int .i64 se, .int .i64 le, .int .i64 nn, .int .i64 K1, .int .i64 N1, .float .f64 f1, .slice y1 n1 d1, .int .i64 K2, .int .i64 N2, .float .f64 f2, .slice y2 n2 d2, .int .i64 K3, .int .i64 N3, .float .f64 f3, .slice y3 n3 d3, .slice yb nb db] 33)
 obtain ⟨R1, R2, z⟩ := two_rows13 w (.cells #[.int .i64 kd, .int .i64 se, .int .i64 le, .int .i64 nn, .int .i64 K1, .int .i64 N1, .float .f64 f1, .slice x1 n1 c1, .int .i64 K2, .int .i64 N2, .float .f64 f2, .slice x2 n2 c2, .int .i64 K3, .int .i64 N3, .float .f64 f3, .slice x3 n3 c3, .slice xb nb cb] 33) (.cells #[.int .i64 kd, .int .i64 se, .int .i64 le, .int .i64 nn, .int .i64 K1, .int .i64 N1, .float .f64 f1, .slice y1 n1 d1, .int .i64 K2, .int .i64 N2, .float .f64 f2, .slice y2 n2 d2, .int .i64 K3, .int .i64 N3, .float .f64 f3, .slice y3 n3 d3, .slice yb nb db] 33)
 have HRR := hid (And.intro r1 (And.intro q1 (And.intro r2 (And.intro q2 (And.intro r3 (And.intro q3 (And.intro rb qb)))))))
 have HB := hid hB
 have HR1 := hid R1
 have HR2 := hid R2
 have HZ := hid (show w.heap.size + 2 ≤ _ from Nat.le_of_eq z.symm)
 clear hB R1 R2 z r1 q1 r2 q2 r3 q3 rb qb
 have ekd : (kd != kd) = false := by simp
 have ese : (se != se) = false := by simp
 have ele : (le != le) = false := by simp
 have enn : (nn != nn) = false := by simp
 go_enter Try.func8, Try.ntmps8
 go_wp2_with fail
 generalize (w.alloc (.cells #[.int .i64 kd, .int .i64 se, .int .i64 le, .int .i64 nn, .int .i64 K1, .int .i64 N1, .float .f64 f1, .slice x1 n1 c1, .int .i64 K2, .int .i64 N2, .float .f64 f2, .slice x2 n2 c2, .int .i64 K3, .int .i64 N3, .float .f64 f3, .slice x3 n3 c3, .slice xb nb cb] 33)).alloc (.cells #[.int .i64 kd, .int .i64 se, .int .i64 le, .int .i64 nn, .int .i64 K1, .int .i64 N1, .float .f64 f1, .slice y1 n1 d1, .int .i64 K2, .int .i64 N2, .float .f64 f2, .slice y2 n2 d2, .int .i64 K3, .int .i64 N3, .float .f64 f3, .slice y3 n3 d3, .slice yb nb db] 33) = U0 at *
 refine (eqItem K1 N1 f1 f1 c1 d1 hf1 hf1 (Same.refl _) (HRR.out.1.below HB.out (Nat.le_refl _)) (HRR.out.2.1.below HB.out (Nat.le_refl _)) hn1).mono ?_
 rintro e w1 ⟨rfl, b⟩
 replace HR1 := hid ((b.block w.heap.size (by have := HZ.out; omega)).trans HR1.out)
 replace HR2 := hid ((b.block (w.heap.size + 1) (by have := HZ.out; omega)).trans HR2.out)
 replace HB := hid (HB.out.trans (b.mono (by have := HZ.out; omega)))
 replace HZ := hid (Nat.le_trans HZ.out b.size)
 clear b
 have c8_ : w1.cell? ⟨w.heap.size, 8, none⟩ = some (.int .i64 K2) := by rw [cell_of_row _ _ _ _ _ _ HR1.out]; rfl
 have e8_ : w1.cell? ⟨w.heap.size + 1, 8, none⟩ = some (.int .i64 K2) := by rw [cell_of_row _ _ _ _ _ _ HR2.out]; rfl
 have c9_ : w1.cell? ⟨w.heap.size, 9, none⟩ = some (.int .i64 N2) := by rw [cell_of_row _ _ _ _ _ _ HR1.out]; rfl
 have e9_ : w1.cell? ⟨w.heap.size + 1, 9, none⟩ = some (.int .i64 N2) := by rw [cell_of_row _ _ _ _ _ _ HR2.out]; rfl
 have c10_ : w1.cell? ⟨w.heap.size, 10, none⟩ = some (.float .f64 f2) := by rw [cell_of_row _ _ _ _ _ _ HR1.out]; rfl
 have e10_ : w1.cell? ⟨w.heap.size + 1, 10, none⟩ = some (.float .f64 f2) := by rw [cell_of_row _ _ _ _ _ _ HR2.out]; rfl
 have c11_ : w1.cell? ⟨w.heap.size, 11, none⟩ = some (.slice x2 n2 c2) := by rw [cell_of_row _ _ _ _ _ _ HR1.out]; rfl
 have e11_ : w1.cell? ⟨w.heap.size + 1, 11, none⟩ = some (.slice y2 n2 d2) := by rw [cell_of_row _ _ _ _ _ _ HR2.out]; rfl
 go_wp2_with fail
 clear c8_ e8_ c9_ e9_ c10_ e10_ c11_ e11_
 refine (eqItem K2 N2 f2 f2 c2 d2 hf2 hf2 (Same.refl _) (HRR.out.2.2.1.below HB.out (Nat.le_refl _)) (HRR.out.2.2.2.1.below HB.out (Nat.le_refl _)) hn2).mono ?_
 rintro e w2 ⟨rfl, b⟩
 replace HR1 := hid ((b.block w.heap.size (by have := HZ.out; omega)).trans HR1.out)
 replace HR2 := hid ((b.block (w.heap.size + 1) (by have := HZ.out; omega)).trans HR2.out)
 replace HB := hid (HB.out.trans (b.mono (by have := HZ.out; omega)))
 replace HZ := hid (Nat.le_trans HZ.out b.size)
 clear b
 have c12_ : w2.cell? ⟨w.heap.size, 12, none⟩ = some (.int .i64 K3) := by rw [cell_of_row _ _ _ _ _ _ HR1.out]; rfl
 have e12_ : w2.cell? ⟨w.heap.size + 1, 12, none⟩ = some (.int .i64 K3) := by rw [cell_of_row _ _ _ _ _ _ HR2.out]; rfl
 have c13_ : w2.cell? ⟨w.heap.size, 13, none⟩ = some (.int .i64 N3) := by rw [cell_of_row _ _ _ _ _ _ HR1.out]; rfl
 have e13_ : w2.cell? ⟨w.heap.size + 1, 13, none⟩ = some (.int .i64 N3) := by rw [cell_of_row _ _ _ _ _ _ HR2.out]; rfl
 have c14_ : w2.cell? ⟨w.heap.size, 14, none⟩ = some (.float .f64 f3) := by rw [cell_of_row _ _ _ _ _ _ HR1.out]; rfl
 have e14_ : w2.cell? ⟨w.heap.size + 1, 14, none⟩ = some (.float .f64 f3) := by rw [cell_of_row _ _ _ _ _ _ HR2.out]; rfl
 have c15_ : w2.cell? ⟨w.heap.size, 15, none⟩ = some (.slice x3 n3 c3) := by rw [cell_of_row _ _ _ _ _ _ HR1.out]; rfl
 have e15_ : w2.cell? ⟨w.heap.size + 1, 15, none⟩ = some (.slice y3 n3 d3) := by rw [cell_of_row _ _ _ _ _ _ HR2.out]; rfl
 go_wp2_with fail
 clear c12_ e12_ c13_ e13_ c14_ e14_ c15_ e15_
 refine (eqItem K3 N3 f3 f3 c3 d3 hf3 hf3 (Same.refl _) (HRR.out.2.2.2.2.1.below HB.out (Nat.le_refl _)) (HRR.out.2.2.2.2.2.1.below HB.out (Nat.le_refl _)) hn3).mono ?_
 rintro e w3 ⟨rfl, b⟩
 replace HR1 := hid ((b.block w.heap.size (by have := HZ.out; omega)).trans HR1.out)
 replace HR2 := hid ((b.block (w.heap.size + 1) (by have := HZ.out; omega)).trans HR2.out)
 replace HB := hid (HB.out.trans (b.mono (by have := HZ.out; omega)))
 replace HZ := hid (Nat.le_trans HZ.out b.size)
 clear b
 have c16_ : w3.cell? ⟨w.heap.size, 16, none⟩ = some (.slice xb nb cb) := by rw [cell_of_row _ _ _ _ _ _ HR1.out]; rfl
 have e16_ : w3.cell? ⟨w.heap.size + 1, 16, none⟩ = some (.slice yb nb db) := by rw [cell_of_row _ _ _ _ _ _ HR2.out]; rfl
 go_wp2_with fail
 clear c16_ e16_
 refine (eqBoolS_any cb db (HRR.out.2.2.2.2.2.2.1.below HB.out (Nat.le_refl _)) (HRR.out.2.2.2.2.2.2.2.below HB.out (Nat.le_refl _)) hnb).mono ?_
 rintro e w4 ⟨rfl, st⟩
 replace HB := hid (HB.out.trans ((st.below w3.heap.size).mono (by have := HZ.out; omega)))
 clear st
 go_wp2_with fail
 go_ret
 exact ⟨rfl, HB.out⟩
end Go.Proofs.Ytnbpblephmjfnaa
