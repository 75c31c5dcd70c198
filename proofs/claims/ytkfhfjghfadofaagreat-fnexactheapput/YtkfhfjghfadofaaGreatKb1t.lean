/- KeyBytes of the program, by kinds. -/
import Derived.Test.YtkfhfjghfadofaaGreatKb0
namespace Go.Proofs.YtkfhfjghfadofaaGreat
open Go.RowKit
set_option maxRecDepth 100000 in
set_option maxHeartbeats 12800000 in
theorem impl_KeyBytes_text {ad : Option Addr} {n : Nat} (cap : Nat) (hnil : ad = none → cap = 0) {zs : List Int} {w : World} (h : Reads w ad n zs) (hn : n ≤ 40) :
 Calls Tryz.prog 147 #[.agg #[.int .i64 3, .int .i64 0, .float .f64 0, .slice ad n cap]] w fun e w' => ∃ v, e = .returned v ∧ w'.ownsRow w.heap.size 5 1 v (1 + n) (bys ([3] ++ zs)) ∧ Below w.heap.size w w' := by
 have hI := impl_KeyOk 3 0 0 ad n cap (by omega) (by omega)
 rw [show okK 3 0 0 n = true by rw [okK, show okI 3 0 0 n = true from decide_eq_true (by omega), decide_eq_true (by omega)]; rfl] at hI
 have HX := hid (Box.new w 3 0 0 ad n cap 29)
 have HB := hid (Below.alloc1 w (.cells #[.int .i64 3, .int .i64 0, .float .f64 0, .slice ad n cap] 29))
 have HR := hid (h.alloc (.cells #[.int .i64 3, .int .i64 0, .float .f64 0, .slice ad n cap] 29))
 clear h
 go_enter Tryz.func147, Tryz.ntmps147
 go_wp2_with fail
 refine (hI _).mono ?_
 rintro e w1 ⟨rfl, b⟩
 have X := HX.out.below b (by simp)
 replace HR := hid (HR.out.below b (Nat.le_refl _))
 replace HB := hid ((HB.out.trans (b.mono HB.out.size)).trans ((Still.drew w1).below _))
 clear HX b hI
 obtain ⟨c0, c1, c2, c3⟩ := X
 have q := m_key_text
 go_wp2_with fail
 go_region_held3 (fun W => W.cell? ⟨w.heap.size, 0, none⟩ = some (.int .i64 3) ∧ W.cell? ⟨w.heap.size, 1, none⟩ = some (.int .i64 0) ∧ W.cell? ⟨w.heap.size, 2, none⟩ = some (.float .f64 0) ∧ W.cell? ⟨w.heap.size, 3, none⟩ = some (.slice ad n cap))
  (first
   | exact ⟨l0, l1, l2, l3⟩
   | exact ⟨k0, k1, k2, k3⟩
   | exact ⟨cell_oldx _ k0, cell_oldx _ k1, cell_oldx _ k2, cell_oldx _ k3⟩
   | exact ⟨cell_oldx _ (cell_oldx _ k0), cell_oldx _ (cell_oldx _ k1), cell_oldx _ (cell_oldx _ k2), cell_oldx _ (cell_oldx _ k3)⟩
   | exact ⟨j0, j1, j2, j3⟩
   | exact ⟨cell_oldx _ j0, cell_oldx _ j1, cell_oldx _ j2, cell_oldx _ j3⟩
   | exact ⟨cell_oldx _ (cell_oldx _ j0), cell_oldx _ (cell_oldx _ j1), cell_oldx _ (cell_oldx _ j2), cell_oldx _ (cell_oldx _ j3)⟩
   | exact ⟨by simpa using c0, by simpa using c1, by simpa using c2, by simpa using c3⟩
   | exact ⟨cell_oldx _ (by simpa using c0), cell_oldx _ (by simpa using c1), cell_oldx _ (by simpa using c2), cell_oldx _ (by simpa using c3)⟩)
  (first
   | (go_at_call 172; refine (contentOf_text 0 0 ad n cap _).mono ?_; rintro e w2 ⟨rfl, b2⟩; have j0 := keep_cell (p := ⟨w.heap.size, 0, none⟩) b2 (cell_oldx _ (by simpa using c0)); have j1 := keep_cell (p := ⟨w.heap.size, 1, none⟩) b2 (cell_oldx _ (by simpa using c1)); have j2 := keep_cell (p := ⟨w.heap.size, 2, none⟩) b2 (cell_oldx _ (by simpa using c2)); have j3 := keep_cell (p := ⟨w.heap.size, 3, none⟩) b2 (cell_oldx _ (by simpa using c3)); have R1 := hid ((new1k w1.drew 3 (by omega) (by omega)).below b2 (Nat.le_refl _)); have R2 := hid (((HR.out.below ((Still.drew w1).below _) (Nat.le_refl _)).alloc _).below b2 (Nat.le_refl _)); have D2 := hid (bstep (w := w) (HB.out.alloc HB.out.size _) b2); clear b2)
   | (go_at_call 172; refine (contentOf_text 0 0 ad n cap _).mono ?_; rintro e w2 ⟨rfl, b2⟩; have j0 := keep_cell (p := ⟨w.heap.size, 0, none⟩) b2 (by simpa using c0); have j1 := keep_cell (p := ⟨w.heap.size, 1, none⟩) b2 (by simpa using c1); have j2 := keep_cell (p := ⟨w.heap.size, 2, none⟩) b2 (by simpa using c2); have j3 := keep_cell (p := ⟨w.heap.size, 3, none⟩) b2 (by simpa using c3); have R2 := hid ((HR.out.below ((Still.drew w1).below _) (Nat.le_refl _)).below b2 (Nat.le_refl _)); have D2 := hid (bstep (w := w) HB.out b2); clear b2)
   | (go_at_call 206; refine (key_text ad n cap _).mono ?_; rintro e w3 ⟨rfl, h3⟩; subst w3)
   | (go_at_call 171; refine (slices_concat w2.heap.size 1 cap hnil (R1.out.alloc _) (R2.out.alloc _) (by omega) (by omega) (by omega) (new2 w2 _ _ 22).1 (new2 w2 _ _ 22).2).mono ?_; rintro e w4 ⟨v4, rfl, o4, b4⟩; have l0 := keep_cell (p := ⟨w.heap.size, 0, none⟩) b4 (cell_oldx _ j0); have l1 := keep_cell (p := ⟨w.heap.size, 1, none⟩) b4 (cell_oldx _ j1); have l2 := keep_cell (p := ⟨w.heap.size, 2, none⟩) b4 (cell_oldx _ j2); have l3 := keep_cell (p := ⟨w.heap.size, 3, none⟩) b4 (cell_oldx _ j3); have D4 := hid (bstep (w := w) (D2.out.alloc D2.out.size _) b4); have O4 := hid (owns_base o4 (D2.out.alloc D2.out.size _).size); clear o4 b4)
   | (go_at_call 171; refine (slices_concat (w2.heap.size + 1) 1 cap hnil ((new1k w2 3 (by omega) (by omega)).alloc _) ((R2.out.alloc _).alloc _) (by omega) (by omega) (by omega) (new2' w2 _ _ _ 22).1 (new2' w2 _ _ _ 22).2).mono ?_; rintro e w4 ⟨v4, rfl, o4, b4⟩; have l0 := keep_cell (p := ⟨w.heap.size, 0, none⟩) b4 (cell_oldx _ (cell_oldx _ j0)); have l1 := keep_cell (p := ⟨w.heap.size, 1, none⟩) b4 (cell_oldx _ (cell_oldx _ j1)); have l2 := keep_cell (p := ⟨w.heap.size, 2, none⟩) b4 (cell_oldx _ (cell_oldx _ j2)); have l3 := keep_cell (p := ⟨w.heap.size, 3, none⟩) b4 (cell_oldx _ (cell_oldx _ j3)); have D4 := hid (bstep (w := w) ((D2.out.alloc D2.out.size _).alloc (D2.out.alloc D2.out.size _).size _) b4); have O4 := hid (owns_base o4 ((D2.out.alloc D2.out.size _).alloc (D2.out.alloc D2.out.size _).size _).size); clear o4 b4))
 all_goals
  go_wp2_with fail
  go_ret
  exact ⟨_, rfl, O4.out, D4.out⟩
end Go.Proofs.YtkfhfjghfadofaaGreat
