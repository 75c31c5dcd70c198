/- The contract of the program's laidIn. Conditions: lists of at most 2^20 bytes. -/
import Derived.Test.YtebhipicfgnajaaGreatTc
import Derived.Test.YtebhipicfgnajaaGreatMgc
import Derived.Test.YtebhipicfgnajaaGreatTz
namespace Go.Proofs.YtebhipicfgnajaaGreat
open Go.RowKit
set_option maxRecDepth 100000

theorem Reads.sub {w : World} {b off n : Nat} {zs : List Int} (h : Reads w (some ⟨b, off, none⟩) n zs) (k l : Nat) (hk : k + l ≤ n) : Reads w (some ⟨b, off + k, none⟩) l ((zs.drop k).take l) := by
  have hl := h.len
  refine ⟨by simp; omega, ?_, take_bd (drop_bd h.bd k) l⟩
  rcases h.cells with h0 | ⟨b', off', e, hc⟩
  · exact .inl (by omega)
  · cases e
    refine .inr ⟨b, off + k, rfl, fun i hi => ?_⟩
    have := hc (k + i) (by omega)
    rw [Nat.add_assoc, this]
    simp [List.getD, List.getElem?_drop, hi]
theorem Reads.zero {w : World} (ad : Option Addr) : Reads w ad 0 [] := ⟨rfl, .inl rfl, by simp⟩
theorem Reads.cast {w : World} {ad : Option Addr} {n n' : Nat} {zs zs' : List Int} (h : Reads w ad n zs) (e : n = n') (ez : zs = zs') : Reads w ad n' zs' := by subst e; subst ez; exact h

theorem cut_yes {ad : Option Addr} {n : Nat} (cap : Nat) {zs : List Int} {w : World} (h : Reads w ad n zs) (hn : n ≤ 2097152) (hc : n ≤ cap) {s : Nat} (hs : zs.getD 0 0 = (s : Int)) (h1 : 1 + s ≤ n) :
    Calls Tryz.prog 185 #[.slice ad n cap] w fun e w' => ∃ a1 c1 a2 c2, e = .returned (.tuple #[.slice a1 s c1, .slice a2 (n - (1 + s)) c2, .bool true]) ∧ Hid (∀ U, Reads U ad n zs → Reads U a1 s ((zs.drop 1).take s)) ∧ s ≤ c1 ∧ Hid (∀ U, Reads U ad n zs → Reads U a2 (n - (1 + s)) (zs.drop (1 + s))) ∧ n - (1 + s) ≤ c2 ∧ Still w w' := by
  have hl := h.len
  have hb := h.bd 0
  obtain ⟨b, off, rfl⟩ := h.pos (by omega)
  have r1 : ∀ U, Reads U (some ⟨b, off, none⟩) n zs → Reads U (some ⟨b, off + 1, none⟩) s ((zs.drop 1).take s) := fun U h => h.sub 1 s (by omega)
  have r2 : ∀ U, Reads U (some ⟨b, off, none⟩) n zs → Reads U (some ⟨b, off + (1 + s), none⟩) (n - (1 + s)) (zs.drop (1 + s)) := fun U h => by
    have r := h.sub (1 + s) (n - (1 + s)) (by omega)
    rw [List.take_of_length_le (by simp; omega)] at r
    exact r
  by_cases hc1 : 1 + s < cap
  · refine (cut_mid cap h hs h1 hc hc1 hn).mono ?_
    rintro e w' ⟨rfl, st⟩
    exact ⟨_, _, _, _, rfl, hid r1, by omega, hid r2, by omega, st⟩
  · obtain rfl : cap = 1 + s := by omega
    obtain rfl : n = 1 + s := by omega
    have e0 : zs.drop (1 + s) = [] := List.drop_eq_nil_of_le (by omega)
    have e1 : 1 + s - (1 + s) = 0 := by omega
    rw [e0, e1]
    rcases Nat.eq_zero_or_pos s with rfl | hs0
    · refine (cut_one h hs).mono ?_
      rintro e w' ⟨rfl, st⟩
      exact ⟨_, _, _, _, rfl, hid (fun U _ => (Reads.zero _).cast rfl (by simp)), Nat.le_refl _, hid (fun U _ => Reads.zero _), Nat.le_refl _, st⟩
    · refine (cut_end h hs hs0 (by omega)).mono ?_
      rintro e w' ⟨rfl, st⟩
      exact ⟨_, _, _, _, rfl, hid r1, Nat.le_refl _, hid (fun U _ => Reads.zero _), Nat.le_refl _, st⟩

theorem laid_rows (w : World) (A B : Int) : ((w.alloc (.cells #[.int .i64 0, .int .i64 0, .slice none 0 0, .slice none 0 0] 177)).alloc (.cells #[.int .i64 A, .int .i64 B, .slice none 0 0, .slice none 0 0] 177)).heap[w.heap.size]? = some (.cells #[.int .i64 0, .int .i64 0, .slice none 0 0, .slice none 0 0] 177) ∧ ((w.alloc (.cells #[.int .i64 0, .int .i64 0, .slice none 0 0, .slice none 0 0] 177)).alloc (.cells #[.int .i64 A, .int .i64 B, .slice none 0 0, .slice none 0 0] 177)).heap[w.heap.size + 1]? = some (.cells #[.int .i64 A, .int .i64 B, .slice none 0 0, .slice none 0 0] 177) ∧ Below w.heap.size w ((w.alloc (.cells #[.int .i64 0, .int .i64 0, .slice none 0 0, .slice none 0 0] 177)).alloc (.cells #[.int .i64 A, .int .i64 B, .slice none 0 0, .slice none 0 0] 177)) :=
  ⟨(two_rows w _ _).1, (two_rows w _ _).2.1, two w _ _⟩
/-- The two stores into the local. -/
theorem laid_set {w : World} {g : Nat} {A B : Int} (hg : w.heap[g + 1]? = some (.cells #[.int .i64 A, .int .i64 B, .slice none 0 0, .slice none 0 0] 177)) (hr : w.heap[g]? = some (.cells #[.int .i64 0, .int .i64 0, .slice none 0 0, .slice none 0 0] 177)) (k v : Value) :
    w.cell? ⟨g + 1, 2, none⟩ = some (.slice none 0 0) ∧ w.frozen? ⟨g + 1, 2, none⟩ = false ∧ (w.setCell ⟨g + 1, 2, none⟩ k).cell? ⟨g + 1, 3, none⟩ = some (.slice none 0 0) ∧ (w.setCell ⟨g + 1, 2, none⟩ k).frozen? ⟨g + 1, 3, none⟩ = false ∧
    ((w.setCell ⟨g + 1, 2, none⟩ k).setCell ⟨g + 1, 3, none⟩ v).heap[g + 1]? = some (.cells #[.int .i64 A, .int .i64 B, k, v] 177 (0, 0)) ∧ ((w.setCell ⟨g + 1, 2, none⟩ k).setCell ⟨g + 1, 3, none⟩ v).heap[g]? = some (.cells #[.int .i64 0, .int .i64 0, .slice none 0 0, .slice none 0 0] 177 (0, 0)) := by
  have h1 := heap_setCell_same w (g + 1) 2 _ 177 k hg
  have h2 := heap_setCell_same (w.setCell ⟨g + 1, 2, none⟩ k) (g + 1) 3 _ 177 v h1
  refine ⟨by rw [cell_of_row _ _ _ _ _ _ hg]; rfl, frozen_of_row _ _ _ _ _ hg, by rw [cell_of_row _ _ _ _ _ _ h1]; rfl, frozen_of_row _ _ _ _ _ h1, h2, ?_⟩
  exact (heap_setCell_other _ ⟨g + 1, 3, none⟩ g v (by simp)).trans ((heap_setCell_other w ⟨g + 1, 2, none⟩ g k (by simp)).trans hr)

set_option maxHeartbeats 1600000 in
theorem laid_short (ad : Option Addr) (n cap : Nat) (hn : n < 8) (w : World) :
    Calls Tryz.prog 171 #[.slice ad n cap] w fun e w' => e = .returned (.tuple #[.agg #[.int .i64 0, .int .i64 0, .slice none 0 0, .slice none 0 0], .bool false]) ∧ Below w.heap.size w w' := by
  have i1 : (n : Int) < 8 := by omega
  have HB := hid (Below.alloc1 w (.cells #[.int .i64 0, .int .i64 0, .slice none 0 0, .slice none 0 0] 177))
  have HR := hid (heap_alloc_new w (.cells #[.int .i64 0, .int .i64 0, .slice none 0 0, .slice none 0 0] 177))
  go_enter Tryz.func171, Tryz.ntmps171
  go_wp2_with fail
  exact bodyPost_ret (results_cell_tmp Tryz.results171 _ _ w.heap.size 177 _ (0, 0) _ rfl HR.out Tryz.underlying177 rfl size_laid) rfl ⟨rfl, HB.out⟩

set_option maxHeartbeats 6400000 in
theorem laid_no8 {b off n : Nat} (cap : Nat) {zs : List Int} {w : World} (h : Reads w (some ⟨b, off, none⟩) n zs) (hn : n ≤ 1048576) (h8 : 8 ≤ n) (hc : n ≤ cap) (h88 : cap = 8) :
    Calls Tryz.prog 171 #[.slice (some ⟨b, off, none⟩) n cap] w fun e w' => ∃ A B a1 n1 c1 a2 n2 c2, e = .returned (.tuple #[.agg #[.int .i64 A, .int .i64 B, .slice a1 n1 c1, .slice a2 n2 c2], .bool false]) ∧ Below w.heap.size w w' := by
  have hl := h.len
  obtain ⟨r0, r1, bb⟩ := laid_rows w (numOf zs 0 4) (numOf zs 4 4)
  have H0 := hid (h.below (two w (.cells #[.int .i64 0, .int .i64 0, .slice none 0 0, .slice none 0 0] 177) (.cells #[.int .i64 0, .int .i64 0, .slice none 0 0, .slice none 0 0] 177)) (Nat.le_refl _))
  have g1 := impl_GetNum cap H0.out (by omega) 0 4 (by omega) (by omega) (by omega)
  have H1 := hid (h.below (two w (.cells #[.int .i64 0, .int .i64 0, .slice none 0 0, .slice none 0 0] 177) (.cells #[.int .i64 (numOf zs 0 4), .int .i64 0, .slice none 0 0, .slice none 0 0] 177)) (Nat.le_refl _))
  have g2 := impl_GetNum cap H1.out (by omega) 4 4 (by omega) (by omega) (by omega)
  have HH := hid (h.below bb (Nat.le_refl _))
  have HO := hid h
  subst h88
  obtain rfl : n = 8 := by omega
  have SR := hid r0
  have SA := hid r1
  have BB := hid bb
  generalize numOf zs 0 4 = A at *
  generalize numOf zs 4 4 = B at *
  generalize numOk zs 0 4 = k1 at *
  generalize numOk zs 4 4 = k2 at *
  clear r0 r1 bb H0 H1 h
  go_enter Tryz.func171, Tryz.ntmps171
  go_wp2_with fail
  refine g1.mono ?_
  rintro e w1 ⟨rfl, h1⟩
  subst w1
  go_wp2_with fail
  refine g2.mono ?_
  rintro e w1 ⟨rfl, h1⟩
  subst w1
  clear g1 g2
  go_wp2_with fail
  generalize (w.alloc (.cells #[.int .i64 0, .int .i64 0, .slice none 0 0, .slice none 0 0] 177)).alloc (.cells #[.int .i64 A, .int .i64 B, .slice none 0 0, .slice none 0 0] 177) = W at *
  refine (cut_no 0 (Reads.zero (some ⟨b, off, none⟩)) (by omega) (.inl rfl)).mono ?_
  rintro e w2 ⟨rfl, hw2⟩
  subst w2
  go_wp2_with fail
  refine (cut_no 0 (Reads.zero none) (by omega) (.inl rfl)).mono ?_
  rintro e w2 ⟨rfl, hw2⟩
  subst w2
  obtain ⟨e2, f2, e3, f3, RA, RR⟩ := laid_set SA.out SR.out (.slice none 0 0) (.slice none 0 0)
  have HA := hid RA
  have HR := hid RR
  have HBx := hid ((BB.out.setCell (p := ⟨w.heap.size + 1, 2, none⟩) (by simp) (.slice none 0 0)).setCell (p := ⟨w.heap.size + 1, 3, none⟩) (by simp) (.slice none 0 0))
  clear RA RR SA SR BB
  go_wp2_with (first
    | (refine wpList_load_row rfl 177 (.tmp 4) rfl (w.heap.size + 1) rfl 177 _ (0, 0) _ HA.out Tryz.underlying177 rfl size_laid ?_)
    | (refine wpList_store_row rfl 177 (.tmp 2) (.tmp 46) rfl w.heap.size #[.int .i64 A, .int .i64 B, .slice none 0 0, .slice none 0 0] rfl rfl 177 _ HR.out ?s1 ?s2 ?s3 ?_))
  case s1 => exact size_laid
  case s2 => rfl
  case s3 => simp [Value.oneCell']
  exact bodyPost_ret (results_cell_tmp Tryz.results171 _ _ w.heap.size 177 _ (0, 0) _ rfl (setRow_heap _ _ _ _ _ _ HR.out) Tryz.underlying177 rfl size_laid) rfl ⟨_, _, _, _, _, _, _, _, rfl, below_setRow HBx.out (Nat.le_refl _) _⟩

set_option maxHeartbeats 6400000 in
theorem laid_noK {b off n : Nat} (cap : Nat) {zs : List Int} {w : World} (h : Reads w (some ⟨b, off, none⟩) n zs) (hn : n ≤ 1048576) (h8 : 8 ≤ n) (hc : n ≤ cap) (h88 : ¬ cap = 8) (hno : n - 8 = 0 ∨ ((n - 8 : Nat) : Int) - 1 < zs.getD 8 0) :
    Calls Tryz.prog 171 #[.slice (some ⟨b, off, none⟩) n cap] w fun e w' => ∃ A B a1 n1 c1 a2 n2 c2, e = .returned (.tuple #[.agg #[.int .i64 A, .int .i64 B, .slice a1 n1 c1, .slice a2 n2 c2], .bool false]) ∧ Below w.heap.size w w' := by
  have hl := h.len
  obtain ⟨r0, r1, bb⟩ := laid_rows w (numOf zs 0 4) (numOf zs 4 4)
  have H0 := hid (h.below (two w (.cells #[.int .i64 0, .int .i64 0, .slice none 0 0, .slice none 0 0] 177) (.cells #[.int .i64 0, .int .i64 0, .slice none 0 0, .slice none 0 0] 177)) (Nat.le_refl _))
  have g1 := impl_GetNum cap H0.out (by omega) 0 4 (by omega) (by omega) (by omega)
  have H1 := hid (h.below (two w (.cells #[.int .i64 0, .int .i64 0, .slice none 0 0, .slice none 0 0] 177) (.cells #[.int .i64 (numOf zs 0 4), .int .i64 0, .slice none 0 0, .slice none 0 0] 177)) (Nat.le_refl _))
  have g2 := impl_GetNum cap H1.out (by omega) 4 4 (by omega) (by omega) (by omega)
  have HH := hid (h.below bb (Nat.le_refl _))
  have HO := hid h
  have i1 : ¬ (n : Int) < 8 := by omega
  have i2 : (8 : Int) ≤ (n : Int) := by omega
  have i3 : (n : Int) ≤ (cap : Int) := by omega
  have HR8 := hid (HH.out.sub 8 (n - 8) (by omega))
  have hno' : n - 8 = 0 ∨ ((n - 8 : Nat) : Int) - 1 < ((zs.drop 8).take (n - 8)).getD 0 0 := by
    rcases Nat.eq_zero_or_pos (n - 8) with h0 | h0
    · exact .inl h0
    · refine .inr ?_
      have e : ((zs.drop 8).take (n - 8)).getD 0 0 = zs.getD 8 0 := by simp [List.getD, List.getElem?_drop, h0]
      rw [e]; rcases hno with h | h; omega; exact h
  have HN := hid hno'
  clear hno hno'
  have SR := hid r0
  have SA := hid r1
  have BB := hid bb
  generalize numOf zs 0 4 = A at *
  generalize numOf zs 4 4 = B at *
  generalize numOk zs 0 4 = k1 at *
  generalize numOk zs 4 4 = k2 at *
  clear r0 r1 bb H0 H1 h
  go_enter Tryz.func171, Tryz.ntmps171
  go_wp2_with fail
  refine g1.mono ?_
  rintro e w1 ⟨rfl, h1⟩
  subst w1
  go_wp2_with fail
  refine g2.mono ?_
  rintro e w1 ⟨rfl, h1⟩
  subst w1
  clear g1 g2
  go_wp2_with fail
  generalize (w.alloc (.cells #[.int .i64 0, .int .i64 0, .slice none 0 0, .slice none 0 0] 177)).alloc (.cells #[.int .i64 A, .int .i64 B, .slice none 0 0, .slice none 0 0] 177) = W at *
  refine (cut_no (cap - 8) HR8.out (by omega) HN.out).mono ?_
  rintro e w2 ⟨rfl, hw2⟩
  subst w2
  go_wp2_with fail
  refine (cut_no 0 (Reads.zero none) (by omega) (.inl rfl)).mono ?_
  rintro e w2 ⟨rfl, hw2⟩
  subst w2
  obtain ⟨e2, f2, e3, f3, RA, RR⟩ := laid_set SA.out SR.out (.slice none 0 0) (.slice none 0 0)
  have HA := hid RA
  have HR := hid RR
  have HBx := hid ((BB.out.setCell (p := ⟨w.heap.size + 1, 2, none⟩) (by simp) (.slice none 0 0)).setCell (p := ⟨w.heap.size + 1, 3, none⟩) (by simp) (.slice none 0 0))
  clear RA RR SA SR BB
  go_wp2_with (first
    | (refine wpList_load_row rfl 177 (.tmp 4) rfl (w.heap.size + 1) rfl 177 _ (0, 0) _ HA.out Tryz.underlying177 rfl size_laid ?_)
    | (refine wpList_store_row rfl 177 (.tmp 2) (.tmp 46) rfl w.heap.size #[.int .i64 A, .int .i64 B, .slice none 0 0, .slice none 0 0] rfl rfl 177 _ HR.out ?s1 ?s2 ?s3 ?_))
  case s1 => exact size_laid
  case s2 => rfl
  case s3 => simp [Value.oneCell']
  exact bodyPost_ret (results_cell_tmp Tryz.results171 _ _ w.heap.size 177 _ (0, 0) _ rfl (setRow_heap _ _ _ _ _ _ HR.out) Tryz.underlying177 rfl size_laid) rfl ⟨_, _, _, _, _, _, _, _, rfl, below_setRow HBx.out (Nat.le_refl _) _⟩

set_option maxHeartbeats 6400000 in
theorem laid_noV {b off n : Nat} (cap : Nat) {zs : List Int} {w : World} (h : Reads w (some ⟨b, off, none⟩) n zs) (hn : n ≤ 1048576) (h8 : 8 ≤ n) (hc : n ≤ cap) (h88 : ¬ cap = 8) {s : Nat} (hs : zs.getD 8 0 = (s : Int)) (h9 : 9 + s ≤ n) (hno : n - (9 + s) = 0 ∨ ((n - (9 + s) : Nat) : Int) - 1 < zs.getD (9 + s) 0) :
    Calls Tryz.prog 171 #[.slice (some ⟨b, off, none⟩) n cap] w fun e w' => ∃ A B a1 n1 c1 a2 n2 c2, e = .returned (.tuple #[.agg #[.int .i64 A, .int .i64 B, .slice a1 n1 c1, .slice a2 n2 c2], .bool false]) ∧ Below w.heap.size w w' := by
  have hl := h.len
  obtain ⟨r0, r1, bb⟩ := laid_rows w (numOf zs 0 4) (numOf zs 4 4)
  have H0 := hid (h.below (two w (.cells #[.int .i64 0, .int .i64 0, .slice none 0 0, .slice none 0 0] 177) (.cells #[.int .i64 0, .int .i64 0, .slice none 0 0, .slice none 0 0] 177)) (Nat.le_refl _))
  have g1 := impl_GetNum cap H0.out (by omega) 0 4 (by omega) (by omega) (by omega)
  have H1 := hid (h.below (two w (.cells #[.int .i64 0, .int .i64 0, .slice none 0 0, .slice none 0 0] 177) (.cells #[.int .i64 (numOf zs 0 4), .int .i64 0, .slice none 0 0, .slice none 0 0] 177)) (Nat.le_refl _))
  have g2 := impl_GetNum cap H1.out (by omega) 4 4 (by omega) (by omega) (by omega)
  have HH := hid (h.below bb (Nat.le_refl _))
  have HO := hid h
  have i1 : ¬ (n : Int) < 8 := by omega
  have i2 : (8 : Int) ≤ (n : Int) := by omega
  have i3 : (n : Int) ≤ (cap : Int) := by omega
  have HR8 := hid (HH.out.sub 8 (n - 8) (by omega))
  have hq8 : ((zs.drop 8).take (n - 8)).getD 0 0 = (s : Int) := by
    rw [← hs]
    simp [List.getD, List.getElem?_drop, show 0 < n - 8 by omega]
  have e0 : (zs.drop 8).take (n - 8) = zs.drop 8 := List.take_of_length_le (by simp; omega)
  have eK : (((zs.drop 8).take (n - 8)).drop 1).take s = (zs.drop 9).take s := by
    rw [e0, List.drop_drop]
  have eV : ((zs.drop 8).take (n - 8)).drop (1 + s) = zs.drop (9 + s) := by
    rw [e0, List.drop_drop]
    congr 1
    omega
  clear e0
  have EK := hid eK
  have EV := hid eV
  have HQ8 := hid hq8
  clear eK eV hq8
  have hno' : n - (9 + s) = 0 ∨ ((n - (9 + s) : Nat) : Int) - 1 < (zs.drop (9 + s)).getD 0 0 := by
    rcases hno with h | h
    · exact .inl h
    · refine .inr ?_
      simpa [List.getD, List.getElem?_drop] using h
  have HN := hid hno'
  clear hno hno' hs
  have SR := hid r0
  have SA := hid r1
  have BB := hid bb
  generalize numOf zs 0 4 = A at *
  generalize numOf zs 4 4 = B at *
  generalize numOk zs 0 4 = k1 at *
  generalize numOk zs 4 4 = k2 at *
  clear r0 r1 bb H0 H1 h
  go_enter Tryz.func171, Tryz.ntmps171
  go_wp2_with fail
  refine g1.mono ?_
  rintro e w1 ⟨rfl, h1⟩
  subst w1
  go_wp2_with fail
  refine g2.mono ?_
  rintro e w1 ⟨rfl, h1⟩
  subst w1
  clear g1 g2
  go_wp2_with fail
  generalize (w.alloc (.cells #[.int .i64 0, .int .i64 0, .slice none 0 0, .slice none 0 0] 177)).alloc (.cells #[.int .i64 A, .int .i64 B, .slice none 0 0, .slice none 0 0] 177) = W at *
  refine (cut_yes (cap - 8) HR8.out (by omega) (by omega) HQ8.out (by omega)).mono ?_
  rintro e w2 ⟨aK, cK, aR, cR, rfl, RK, lK, RR, lR, st⟩
  rw [EK.out] at RK
  rw [EV.out] at RR
  replace SR := hid ((by rw [st.heap] : w2.heap[w.heap.size]? = W.heap[w.heap.size]?).trans SR.out)
  replace SA := hid ((by rw [st.heap] : w2.heap[w.heap.size + 1]? = W.heap[w.heap.size + 1]?).trans SA.out)
  replace BB := hid (BB.out.trans (st.below _))
  replace HH := hid (st.reads HH.out)
  have lN : n - 8 - (1 + s) = n - (9 + s) := by omega
  rw [lN] at RR lR
  rw [lN]
  have RK2 : Hid (∀ U, Reads U (some ⟨b, off, none⟩) n zs → Reads U aK s ((zs.drop 9).take s)) := hid fun U r => RK.out U (r.sub 8 (n - 8) (by omega))
  have RR1 : Hid (∀ U, Reads U (some ⟨b, off, none⟩) n zs → Reads U aR (n - (9 + s)) (zs.drop (9 + s))) := hid fun U r => RR.out U (r.sub 8 (n - 8) (by omega))
  have RR2 := hid (RR1.out _ HH.out)
  clear RK RR st lN
  go_wp2_with fail
  refine (cut_no cR RR2.out (by omega) HN.out).mono ?_
  rintro e w3 ⟨rfl, hw2⟩
  subst w3
  obtain ⟨e2, f2, e3, f3, RA, RR⟩ := laid_set SA.out SR.out (.slice aK s cK) (.slice none 0 0)
  have HA := hid RA
  have HR := hid RR
  have HBx := hid ((BB.out.setCell (p := ⟨w.heap.size + 1, 2, none⟩) (by simp) (.slice aK s cK)).setCell (p := ⟨w.heap.size + 1, 3, none⟩) (by simp) (.slice none 0 0))
  clear RA RR SA SR BB
  go_wp2_with (first
    | (refine wpList_load_row rfl 177 (.tmp 4) rfl (w.heap.size + 1) rfl 177 _ (0, 0) _ HA.out Tryz.underlying177 rfl size_laid ?_)
    | (refine wpList_store_row rfl 177 (.tmp 2) (.tmp 46) rfl w.heap.size #[.int .i64 A, .int .i64 B, .slice aK s cK, .slice none 0 0] rfl rfl 177 _ HR.out ?s1 ?s2 ?s3 ?_))
  case s1 => exact size_laid
  case s2 => rfl
  case s3 => simp [Value.oneCell']
  exact bodyPost_ret (results_cell_tmp Tryz.results171 _ _ w.heap.size 177 _ (0, 0) _ rfl (setRow_heap _ _ _ _ _ _ HR.out) Tryz.underlying177 rfl size_laid) rfl ⟨_, _, _, _, _, _, _, _, rfl, below_setRow HBx.out (Nat.le_refl _) _⟩

set_option maxHeartbeats 6400000 in
theorem laid_noE {b off n : Nat} (cap : Nat) {zs : List Int} {w : World} (h : Reads w (some ⟨b, off, none⟩) n zs) (hn : n ≤ 1048576) (h8 : 8 ≤ n) (hc : n ≤ cap) (h88 : ¬ cap = 8) {s t : Nat} (hs : zs.getD 8 0 = (s : Int)) (h9 : 9 + s ≤ n) (ht : zs.getD (9 + s) 0 = (t : Int)) (h10 : 10 + s + t < n) :
    Calls Tryz.prog 171 #[.slice (some ⟨b, off, none⟩) n cap] w fun e w' => ∃ A B a1 n1 c1 a2 n2 c2, e = .returned (.tuple #[.agg #[.int .i64 A, .int .i64 B, .slice a1 n1 c1, .slice a2 n2 c2], .bool false]) ∧ Below w.heap.size w w' := by
  have hl := h.len
  obtain ⟨r0, r1, bb⟩ := laid_rows w (numOf zs 0 4) (numOf zs 4 4)
  have H0 := hid (h.below (two w (.cells #[.int .i64 0, .int .i64 0, .slice none 0 0, .slice none 0 0] 177) (.cells #[.int .i64 0, .int .i64 0, .slice none 0 0, .slice none 0 0] 177)) (Nat.le_refl _))
  have g1 := impl_GetNum cap H0.out (by omega) 0 4 (by omega) (by omega) (by omega)
  have H1 := hid (h.below (two w (.cells #[.int .i64 0, .int .i64 0, .slice none 0 0, .slice none 0 0] 177) (.cells #[.int .i64 (numOf zs 0 4), .int .i64 0, .slice none 0 0, .slice none 0 0] 177)) (Nat.le_refl _))
  have g2 := impl_GetNum cap H1.out (by omega) 4 4 (by omega) (by omega) (by omega)
  have HH := hid (h.below bb (Nat.le_refl _))
  have HO := hid h
  have i1 : ¬ (n : Int) < 8 := by omega
  have i2 : (8 : Int) ≤ (n : Int) := by omega
  have i3 : (n : Int) ≤ (cap : Int) := by omega
  have HR8 := hid (HH.out.sub 8 (n - 8) (by omega))
  have hq8 : ((zs.drop 8).take (n - 8)).getD 0 0 = (s : Int) := by
    rw [← hs]
    simp [List.getD, List.getElem?_drop, show 0 < n - 8 by omega]
  have e0 : (zs.drop 8).take (n - 8) = zs.drop 8 := List.take_of_length_le (by simp; omega)
  have eK : (((zs.drop 8).take (n - 8)).drop 1).take s = (zs.drop 9).take s := by
    rw [e0, List.drop_drop]
  have eV : ((zs.drop 8).take (n - 8)).drop (1 + s) = zs.drop (9 + s) := by
    rw [e0, List.drop_drop]
    congr 1
    omega
  clear e0
  have EK := hid eK
  have EV := hid eV
  have HQ8 := hid hq8
  clear eK eV hq8
  have hv9 : (zs.drop (9 + s)).getD 0 0 = (t : Int) := by
    rw [← ht]
    simp [List.getD, List.getElem?_drop]
  have eW : ((zs.drop (9 + s)).drop 1).take t = (zs.drop (10 + s)).take t := by
    rw [List.drop_drop]
    congr 2
    omega
  have HV9 := hid hv9
  have EW := hid eW
  clear hv9 eW ht hs
  have iE : (((n - (9 + s) - (1 + t) : Nat) : Int) == 0) = false := beq_eq_false_iff_ne.2 (by omega)
  have SR := hid r0
  have SA := hid r1
  have BB := hid bb
  generalize numOf zs 0 4 = A at *
  generalize numOf zs 4 4 = B at *
  generalize numOk zs 0 4 = k1 at *
  generalize numOk zs 4 4 = k2 at *
  clear r0 r1 bb H0 H1 h
  go_enter Tryz.func171, Tryz.ntmps171
  go_wp2_with fail
  refine g1.mono ?_
  rintro e w1 ⟨rfl, h1⟩
  subst w1
  go_wp2_with fail
  refine g2.mono ?_
  rintro e w1 ⟨rfl, h1⟩
  subst w1
  clear g1 g2
  go_wp2_with fail
  generalize (w.alloc (.cells #[.int .i64 0, .int .i64 0, .slice none 0 0, .slice none 0 0] 177)).alloc (.cells #[.int .i64 A, .int .i64 B, .slice none 0 0, .slice none 0 0] 177) = W at *
  refine (cut_yes (cap - 8) HR8.out (by omega) (by omega) HQ8.out (by omega)).mono ?_
  rintro e w2 ⟨aK, cK, aR, cR, rfl, RK, lK, RR, lR, st⟩
  rw [EK.out] at RK
  rw [EV.out] at RR
  replace SR := hid ((by rw [st.heap] : w2.heap[w.heap.size]? = W.heap[w.heap.size]?).trans SR.out)
  replace SA := hid ((by rw [st.heap] : w2.heap[w.heap.size + 1]? = W.heap[w.heap.size + 1]?).trans SA.out)
  replace BB := hid (BB.out.trans (st.below _))
  replace HH := hid (st.reads HH.out)
  have lN : n - 8 - (1 + s) = n - (9 + s) := by omega
  rw [lN] at RR lR
  rw [lN]
  have RK2 : Hid (∀ U, Reads U (some ⟨b, off, none⟩) n zs → Reads U aK s ((zs.drop 9).take s)) := hid fun U r => RK.out U (r.sub 8 (n - 8) (by omega))
  have RR1 : Hid (∀ U, Reads U (some ⟨b, off, none⟩) n zs → Reads U aR (n - (9 + s)) (zs.drop (9 + s))) := hid fun U r => RR.out U (r.sub 8 (n - 8) (by omega))
  have RR2 := hid (RR1.out _ HH.out)
  clear RK RR st lN
  go_wp2_with fail
  refine (cut_yes cR RR2.out (by omega) lR HV9.out (by omega)).mono ?_
  rintro e w3 ⟨aV, cV, aE, cE, rfl, RV, lV, RE, lE, st⟩
  rw [EW.out] at RV
  have RV3 : Hid (∀ U, Reads U (some ⟨b, off, none⟩) n zs → Reads U aV t ((zs.drop (10 + s)).take t)) := hid fun U r => RV.out U (RR1.out U r)
  replace SR := hid ((by rw [st.heap] : w3.heap[w.heap.size]? = w2.heap[w.heap.size]?).trans SR.out)
  replace SA := hid ((by rw [st.heap] : w3.heap[w.heap.size + 1]? = w2.heap[w.heap.size + 1]?).trans SA.out)
  replace BB := hid (BB.out.trans (st.below _))
  clear RV RE st RR1 RR2
  obtain ⟨e2, f2, e3, f3, RA, RR⟩ := laid_set SA.out SR.out (.slice aK s cK) (.slice aV t cV)
  have HA := hid RA
  have HR := hid RR
  have HBx := hid ((BB.out.setCell (p := ⟨w.heap.size + 1, 2, none⟩) (by simp) (.slice aK s cK)).setCell (p := ⟨w.heap.size + 1, 3, none⟩) (by simp) (.slice aV t cV))
  clear RA RR SA SR BB
  go_wp2_with (first
    | (refine wpList_load_row rfl 177 (.tmp 4) rfl (w.heap.size + 1) rfl 177 _ (0, 0) _ HA.out Tryz.underlying177 rfl size_laid ?_)
    | (refine wpList_store_row rfl 177 (.tmp 2) (.tmp 46) rfl w.heap.size #[.int .i64 A, .int .i64 B, .slice aK s cK, .slice aV t cV] rfl rfl 177 _ HR.out ?s1 ?s2 ?s3 ?_))
  case s1 => exact size_laid
  case s2 => rfl
  case s3 => simp [Value.oneCell']
  exact bodyPost_ret (results_cell_tmp Tryz.results171 _ _ w.heap.size 177 _ (0, 0) _ rfl (setRow_heap _ _ _ _ _ _ HR.out) Tryz.underlying177 rfl size_laid) rfl ⟨_, _, _, _, _, _, _, _, rfl, below_setRow HBx.out (Nat.le_refl _) _⟩

set_option maxHeartbeats 6400000 in
theorem laid_yes {b off n : Nat} (cap : Nat) {zs : List Int} {w : World} (h : Reads w (some ⟨b, off, none⟩) n zs) (hn : n ≤ 1048576) (h8 : 8 ≤ n) (hc : n ≤ cap) (h88 : ¬ cap = 8) {s t : Nat} (hs : zs.getD 8 0 = (s : Int)) (h9 : 9 + s ≤ n) (ht : zs.getD (9 + s) 0 = (t : Int)) (h10 : 10 + s + t = n) :
    Calls Tryz.prog 171 #[.slice (some ⟨b, off, none⟩) n cap] w fun e w' => ∃ aK cK aV cV, e = .returned (.tuple #[.agg #[.int .i64 (numOf zs 0 4), .int .i64 (numOf zs 4 4), .slice aK s cK, .slice aV t cV], .bool true]) ∧ Hid (∀ U, Reads U (some ⟨b, off, none⟩) n zs → Reads U aK s ((zs.drop 9).take s)) ∧ s ≤ cK ∧ Hid (∀ U, Reads U (some ⟨b, off, none⟩) n zs → Reads U aV t (zs.drop (10 + s))) ∧ t ≤ cV ∧ Below w.heap.size w w' := by
  have hl := h.len
  obtain ⟨r0, r1, bb⟩ := laid_rows w (numOf zs 0 4) (numOf zs 4 4)
  have H0 := hid (h.below (two w (.cells #[.int .i64 0, .int .i64 0, .slice none 0 0, .slice none 0 0] 177) (.cells #[.int .i64 0, .int .i64 0, .slice none 0 0, .slice none 0 0] 177)) (Nat.le_refl _))
  have g1 := impl_GetNum cap H0.out (by omega) 0 4 (by omega) (by omega) (by omega)
  have H1 := hid (h.below (two w (.cells #[.int .i64 0, .int .i64 0, .slice none 0 0, .slice none 0 0] 177) (.cells #[.int .i64 (numOf zs 0 4), .int .i64 0, .slice none 0 0, .slice none 0 0] 177)) (Nat.le_refl _))
  have g2 := impl_GetNum cap H1.out (by omega) 4 4 (by omega) (by omega) (by omega)
  have HH := hid (h.below bb (Nat.le_refl _))
  have HO := hid h
  have i1 : ¬ (n : Int) < 8 := by omega
  have i2 : (8 : Int) ≤ (n : Int) := by omega
  have i3 : (n : Int) ≤ (cap : Int) := by omega
  have HR8 := hid (HH.out.sub 8 (n - 8) (by omega))
  have hq8 : ((zs.drop 8).take (n - 8)).getD 0 0 = (s : Int) := by
    rw [← hs]
    simp [List.getD, List.getElem?_drop, show 0 < n - 8 by omega]
  have e0 : (zs.drop 8).take (n - 8) = zs.drop 8 := List.take_of_length_le (by simp; omega)
  have eK : (((zs.drop 8).take (n - 8)).drop 1).take s = (zs.drop 9).take s := by
    rw [e0, List.drop_drop]
  have eV : ((zs.drop 8).take (n - 8)).drop (1 + s) = zs.drop (9 + s) := by
    rw [e0, List.drop_drop]
    congr 1
    omega
  clear e0
  have EK := hid eK
  have EV := hid eV
  have HQ8 := hid hq8
  clear eK eV hq8
  have hv9 : (zs.drop (9 + s)).getD 0 0 = (t : Int) := by
    rw [← ht]
    simp [List.getD, List.getElem?_drop]
  have eW : ((zs.drop (9 + s)).drop 1).take t = (zs.drop (10 + s)).take t := by
    rw [List.drop_drop]
    congr 2
    omega
  have HV9 := hid hv9
  have EW := hid eW
  clear hv9 eW ht hs
  have iE : n - (9 + s) - (1 + t) = 0 := by omega
  have eT : (zs.drop (10 + s)).take t = zs.drop (10 + s) := List.take_of_length_le (by simp; omega)
  have ET := hid eT
  have HIE := hid iE
  have hlt9 : 1 + t ≤ n - (9 + s) := by omega
  have H10 := hid h10
  clear eT iE h10
  have SR := hid r0
  have SA := hid r1
  have BB := hid bb
  generalize numOf zs 0 4 = A at *
  generalize numOf zs 4 4 = B at *
  generalize numOk zs 0 4 = k1 at *
  generalize numOk zs 4 4 = k2 at *
  clear r0 r1 bb H0 H1 h
  go_enter Tryz.func171, Tryz.ntmps171
  go_wp2_with fail
  refine g1.mono ?_
  rintro e w1 ⟨rfl, h1⟩
  subst w1
  go_wp2_with fail
  refine g2.mono ?_
  rintro e w1 ⟨rfl, h1⟩
  subst w1
  clear g1 g2
  go_wp2_with fail
  generalize (w.alloc (.cells #[.int .i64 0, .int .i64 0, .slice none 0 0, .slice none 0 0] 177)).alloc (.cells #[.int .i64 A, .int .i64 B, .slice none 0 0, .slice none 0 0] 177) = W at *
  refine (cut_yes (cap - 8) HR8.out (by omega) (by omega) HQ8.out (by omega)).mono ?_
  rintro e w2 ⟨aK, cK, aR, cR, rfl, RK, lK, RR, lR, st⟩
  rw [EK.out] at RK
  rw [EV.out] at RR
  replace SR := hid ((by rw [st.heap] : w2.heap[w.heap.size]? = W.heap[w.heap.size]?).trans SR.out)
  replace SA := hid ((by rw [st.heap] : w2.heap[w.heap.size + 1]? = W.heap[w.heap.size + 1]?).trans SA.out)
  replace BB := hid (BB.out.trans (st.below _))
  replace HH := hid (st.reads HH.out)
  have lN : n - 8 - (1 + s) = n - (9 + s) := by omega
  rw [lN] at RR lR
  rw [lN]
  have RK2 : Hid (∀ U, Reads U (some ⟨b, off, none⟩) n zs → Reads U aK s ((zs.drop 9).take s)) := hid fun U r => RK.out U (r.sub 8 (n - 8) (by omega))
  have RR1 : Hid (∀ U, Reads U (some ⟨b, off, none⟩) n zs → Reads U aR (n - (9 + s)) (zs.drop (9 + s))) := hid fun U r => RR.out U (r.sub 8 (n - 8) (by omega))
  have RR2 := hid (RR1.out _ HH.out)
  clear RK RR st lN
  go_wp2_with fail
  refine (cut_yes cR RR2.out (by omega) lR HV9.out hlt9).mono ?_
  rintro e w3 ⟨aV, cV, aE, cE, rfl, RV, lV, RE, lE, st⟩
  rw [EW.out] at RV
  rw [HIE.out]
  have RV3 : Hid (∀ U, Reads U (some ⟨b, off, none⟩) n zs → Reads U aV t ((zs.drop (10 + s)).take t)) := hid fun U r => RV.out U (RR1.out U r)
  replace SR := hid ((by rw [st.heap] : w3.heap[w.heap.size]? = w2.heap[w.heap.size]?).trans SR.out)
  replace SA := hid ((by rw [st.heap] : w3.heap[w.heap.size + 1]? = w2.heap[w.heap.size + 1]?).trans SA.out)
  replace BB := hid (BB.out.trans (st.below _))
  rw [ET.out] at RV3
  clear RV RE st RR1 RR2
  obtain ⟨e2, f2, e3, f3, RA, RR⟩ := laid_set SA.out SR.out (.slice aK s cK) (.slice aV t cV)
  have HA := hid RA
  have HR := hid RR
  have HBx := hid ((BB.out.setCell (p := ⟨w.heap.size + 1, 2, none⟩) (by simp) (.slice aK s cK)).setCell (p := ⟨w.heap.size + 1, 3, none⟩) (by simp) (.slice aV t cV))
  clear RA RR SA SR BB
  go_wp2_with (first
    | (refine wpList_load_row rfl 177 (.tmp 4) rfl (w.heap.size + 1) rfl 177 _ (0, 0) _ HA.out Tryz.underlying177 rfl size_laid ?_)
    | (refine wpList_store_row rfl 177 (.tmp 2) (.tmp 46) rfl w.heap.size #[.int .i64 A, .int .i64 B, .slice aK s cK, .slice aV t cV] rfl rfl 177 _ HR.out ?s1 ?s2 ?s3 ?_))
  case s1 => exact size_laid
  case s2 => rfl
  case s3 => simp [Value.oneCell']
  exact bodyPost_ret (results_cell_tmp Tryz.results171 _ _ w.heap.size 177 _ (0, 0) _ rfl (setRow_heap _ _ _ _ _ _ HR.out) Tryz.underlying177 rfl size_laid) rfl ⟨_, _, _, _, rfl, RK2, lK, RV3, lV, below_setRow HBx.out (Nat.le_refl _) _⟩
end Go.Proofs.YtebhipicfgnajaaGreat
