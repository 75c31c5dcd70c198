/- KeyBytes of the program, by kinds. -/
import Derived.Test.YtkfhfjghfadofaaGreatKb0
namespace Go.Proofs.YtkfhfjghfadofaaGreat
open Go.RowKit
set_option maxRecDepth 100000 in
set_option maxHeartbeats 12800000 in
theorem impl_KeyBytes_int (N : Int) (ad : Option Addr) (cap : Nat) (h0 : -9223372036854775808 ≤ N) (h1 : N ≤ 9223372036854775807) (w : World) :
 Calls Tryz.prog 147 #[.agg #[.int .i64 1, .int .i64 N, .float .f64 0, .slice ad 0 cap]] w fun e w' => ∃ v, e = .returned v ∧ w'.ownsRow w.heap.size 5 1 v (1 + 8) (bys ([1] ++ (hi8 (N + 9223372036854775808).toNat 8))) ∧ Below w.heap.size w w' := by
 have hI := impl_KeyOk 1 N 0 ad 0 cap (by omega) (by omega)
 rw [show okK 1 N 0 0 = true by rw [okK, show okI 1 N 0 0 = true from decide_eq_true (by omega), decide_eq_true (by omega)]; rfl] at hI
 have HX := hid (Box.new w 1 N 0 ad 0 cap 29)
 have HB := hid (Below.alloc1 w (.cells #[.int .i64 1, .int .i64 N, .float .f64 0, .slice ad 0 cap] 29))
 have hbd := hi8_bd (N + 9223372036854775808).toNat 8
 have HN0 := hid h0
 have HN1 := hid h1
 clear h0 h1
 go_enter Tryz.func147, Tryz.ntmps147
 go_wp2_with fail
 refine (hI _).mono ?_
 rintro e w1 ⟨rfl, b⟩
 have X := HX.out.below b (by simp)
 replace HB := hid ((HB.out.trans (b.mono HB.out.size)).trans ((Still.drew w1).below _))
 clear HX b hI
 obtain ⟨c0, c1, c2, c3⟩ := X
 have q := m_key_int
 go_wp2_with fail
 go_region_held3 (fun W => W.cell? ⟨w.heap.size, 0, none⟩ = some (.int .i64 1) ∧ W.cell? ⟨w.heap.size, 1, none⟩ = some (.int .i64 N) ∧ W.cell? ⟨w.heap.size, 2, none⟩ = some (.float .f64 0) ∧ W.cell? ⟨w.heap.size, 3, none⟩ = some (.slice ad 0 cap))
  (first
   | exact ⟨l0, l1, l2, l3⟩
   | exact ⟨k0, k1, k2, k3⟩
   | exact ⟨cell_oldx _ k0, cell_oldx _ k1, cell_oldx _ k2, cell_oldx _ k3⟩
   | exact ⟨cell_oldx _ (cell_oldx _ k0), cell_oldx _ (cell_oldx _ k1), cell_oldx _ (cell_oldx _ k2), cell_oldx _ (cell_oldx _ k3)⟩
   | exact ⟨j0, j1, j2, j3⟩
   | exact ⟨cell_oldx _ j0, cell_oldx _ j1, cell_oldx _ j2, cell_oldx _ j3⟩
   | exact ⟨cell_oldx _ (cell_oldx _ j0), cell_oldx _ (cell_oldx _ j1), cell_oldx _ (cell_oldx _ j2), cell_oldx _ (cell_oldx _ j3)⟩
   | exact ⟨by simpa using c0, by simpa using c1, by simpa using c2, by simpa using c3⟩
   | exact ⟨cell_oldx _ (by simpa using c0), cell_oldx _ (by simpa using c1), cell_oldx _ (by simpa using c2), cell_oldx _ (by simpa using c3)⟩)
  (first
   | (go_at_call 172; refine (contentOf_int N 0 ad 0 cap _).mono ?_; rintro e w2 ⟨rfl, b2⟩; have j0 := keep_cell (p := ⟨w.heap.size, 0, none⟩) b2 (cell_oldx _ (by simpa using c0)); have j1 := keep_cell (p := ⟨w.heap.size, 1, none⟩) b2 (cell_oldx _ (by simpa using c1)); have j2 := keep_cell (p := ⟨w.heap.size, 2, none⟩) b2 (cell_oldx _ (by simpa using c2)); have j3 := keep_cell (p := ⟨w.heap.size, 3, none⟩) b2 (cell_oldx _ (by simpa using c3)); have R1 := hid ((new1k w1.drew 1 (by omega) (by omega)).below b2 (Nat.le_refl _)); have D2 := hid (bstep (w := w) (HB.out.alloc HB.out.size _) b2); clear b2)
   | (go_at_call 172; refine (contentOf_int N 0 ad 0 cap _).mono ?_; rintro e w2 ⟨rfl, b2⟩; have j0 := keep_cell (p := ⟨w.heap.size, 0, none⟩) b2 (by simpa using c0); have j1 := keep_cell (p := ⟨w.heap.size, 1, none⟩) b2 (by simpa using c1); have j2 := keep_cell (p := ⟨w.heap.size, 2, none⟩) b2 (by simpa using c2); have j3 := keep_cell (p := ⟨w.heap.size, 3, none⟩) b2 (by simpa using c3); have D2 := hid (bstep (w := w) HB.out b2); clear b2)
   | (go_at_call 199; refine (key_int N HN0.out HN1.out _).mono ?_; rintro e w3 ⟨v, rfl, o, b3⟩; have R1' := hid (R1.out.below b3 (Nat.le_refl _)); have k0 := keep_cell (p := ⟨w.heap.size, 0, none⟩) b3 j0; have k1 := keep_cell (p := ⟨w.heap.size, 1, none⟩) b3 j1; have k2 := keep_cell (p := ⟨w.heap.size, 2, none⟩) b3 j2; have k3 := keep_cell (p := ⟨w.heap.size, 3, none⟩) b3 j3; have D3 := hid (bstep (w := w) D2.out b3); obtain ⟨ad3, cap3, rfl, r3, d3⟩ := Reads.own o hbd; have O3 := hid o; have R3 := hid r3; clear b3 o r3 d3)
   | (go_at_call 199; refine (key_int N HN0.out HN1.out _).mono ?_; rintro e w3 ⟨v, rfl, o, b3⟩; have R1' := hid ((new1k w2 1 (by omega) (by omega)).below b3 (Nat.le_refl _)); have k0 := keep_cell (p := ⟨w.heap.size, 0, none⟩) b3 (cell_oldx _ j0); have k1 := keep_cell (p := ⟨w.heap.size, 1, none⟩) b3 (cell_oldx _ j1); have k2 := keep_cell (p := ⟨w.heap.size, 2, none⟩) b3 (cell_oldx _ j2); have k3 := keep_cell (p := ⟨w.heap.size, 3, none⟩) b3 (cell_oldx _ j3); have D3 := hid (bstep (w := w) (D2.out.alloc D2.out.size _) b3); obtain ⟨ad3, cap3, rfl, r3, d3⟩ := Reads.own o hbd; have O3 := hid o; have R3 := hid r3; clear b3 o r3 d3)
   | (go_at_call 199; refine (key_int N HN0.out HN1.out _).mono ?_; rintro e w3 ⟨v, rfl, o, b3⟩; have k0 := keep_cell (p := ⟨w.heap.size, 0, none⟩) b3 j0; have k1 := keep_cell (p := ⟨w.heap.size, 1, none⟩) b3 j1; have k2 := keep_cell (p := ⟨w.heap.size, 2, none⟩) b3 j2; have k3 := keep_cell (p := ⟨w.heap.size, 3, none⟩) b3 j3; have D3 := hid (bstep (w := w) D2.out b3); obtain ⟨ad3, cap3, rfl, r3, d3⟩ := Reads.own o hbd; have O3 := hid o; have R3 := hid r3; clear b3 o r3 d3)
   | (go_at_call 171; refine (slices_concat w3.heap.size 1 cap3 (own_nil O3.out) (R1'.out.alloc _) (R3.out.alloc _) (by omega) (by omega) (by omega) (new2 w3 _ _ 22).1 (new2 w3 _ _ 22).2).mono ?_; rintro e w4 ⟨v4, rfl, o4, b4⟩; have l0 := keep_cell (p := ⟨w.heap.size, 0, none⟩) b4 (cell_oldx _ k0); have l1 := keep_cell (p := ⟨w.heap.size, 1, none⟩) b4 (cell_oldx _ k1); have l2 := keep_cell (p := ⟨w.heap.size, 2, none⟩) b4 (cell_oldx _ k2); have l3 := keep_cell (p := ⟨w.heap.size, 3, none⟩) b4 (cell_oldx _ k3); have D4 := hid (bstep (w := w) (D3.out.alloc D3.out.size _) b4); have O4 := hid (owns_base o4 (D3.out.alloc D3.out.size _).size); clear o4 b4)
   | (go_at_call 171; refine (slices_concat (w3.heap.size + 1) 1 cap3 (own_nil O3.out) ((new1k w3 1 (by omega) (by omega)).alloc _) ((R3.out.alloc _).alloc _) (by omega) (by omega) (by omega) (new2' w3 _ _ _ 22).1 (new2' w3 _ _ _ 22).2).mono ?_; rintro e w4 ⟨v4, rfl, o4, b4⟩; have l0 := keep_cell (p := ⟨w.heap.size, 0, none⟩) b4 (cell_oldx _ (cell_oldx _ k0)); have l1 := keep_cell (p := ⟨w.heap.size, 1, none⟩) b4 (cell_oldx _ (cell_oldx _ k1)); have l2 := keep_cell (p := ⟨w.heap.size, 2, none⟩) b4 (cell_oldx _ (cell_oldx _ k2)); have l3 := keep_cell (p := ⟨w.heap.size, 3, none⟩) b4 (cell_oldx _ (cell_oldx _ k3)); have D4 := hid (bstep (w := w) ((D3.out.alloc D3.out.size _).alloc (D3.out.alloc D3.out.size _).size _) b4); have O4 := hid (owns_base o4 ((D3.out.alloc D3.out.size _).alloc (D3.out.alloc D3.out.size _).size _).size); clear o4 b4))
 all_goals
  go_wp2_with fail
  go_ret
  exact ⟨_, rfl, O4.out, D4.out⟩
end Go.Proofs.YtkfhfjghfadofaaGreat
