/- The contracts of the laws' toRecord, szRecord, eqRecord, markRecord, heldRecord. Conditions: at most 2^21 bytes. -/
import Derived.Test.YtdlddgejpcbofaaRb
import Derived.Test.YtdlddgejpcbofaaHelp
import Derived.Test.YtdlddgejpcbofaaDk
import Derived.Test.YtdlddgejpcbofaaSz
namespace Go.Proofs.Ytdlddgejpcbofaa
open Go.RowKit
set_option maxRecDepth 100000

theorem grown_alloc (w : World) (o : Obj) (row : Option Nat) : w.grownBy (w.alloc o) row := ⟨rfl, rfl, rfl, by simp, fun k hk _ => alloc_old w o k hk⟩

theorem sizeRc : (Try.prog.info? 41).map (·.size) = some 6 := by kernel_rfl

set_option maxHeartbeats 3200000 in
theorem toRecord (K L X P S : Int) {ad : Option Addr} {n : Nat} (cap : Nat) {zs : List Int} {w : World} (h : Reads w ad n zs) (hn : n ≤ 2097152) :
    Calls Try.prog 19 #[.agg #[.int .i64 K, .int .i64 L, .int .i64 X, .int .i64 P, .int .i64 S, .slice ad n cap]] w fun e w' => ∃ g, e = .returned (.agg #[.int .i64 K, .int .i64 L, .int .i64 X, .int .i64 P, .int .i64 S, .slice (some ⟨g, 0, none⟩) n n]) ∧ w'.ownsRow w.heap.size 5 1 (.slice (some ⟨g, 0, none⟩) n n) n (bys zs) ∧ Below w.heap.size w w' := by
  go_enter Try.func19, Try.ntmps19
  go_wp2_with fail
  obtain ⟨z, R1, R2, bW⟩ := three w (.cells #[.int .i64 K, .int .i64 L, .int .i64 X, .int .i64 P, .int .i64 S, .slice ad n cap] 38) (.cells #[.int .i64 0, .int .i64 0, .int .i64 0, .int .i64 0, .int .i64 0, .slice none 0 0] 41) (.cells #[.int .i64 K, .int .i64 L, .int .i64 X, .int .i64 P, .int .i64 S, .slice none 0 0] 41)
  have zW := hid z
  clear z
  generalize ((w.alloc (.cells #[.int .i64 K, .int .i64 L, .int .i64 X, .int .i64 P, .int .i64 S, .slice ad n cap] 38)).alloc (.cells #[.int .i64 0, .int .i64 0, .int .i64 0, .int .i64 0, .int .i64 0, .slice none 0 0] 41)).alloc (.cells #[.int .i64 K, .int .i64 L, .int .i64 X, .int .i64 P, .int .i64 S, .slice none 0 0] 41) = W at *
  refine (toByteS_any cap (h.below bW (Nat.le_refl _)) hn).mono ?_
  rintro e W1 ⟨rfl, o1, b1⟩
  have hW := zW.out
  have S1 : W1.heap[w.heap.size + 1]? = _ := (b1.block _ (by omega)).trans R1
  have S2 : W1.heap[w.heap.size + 1 + 1]? = _ := (b1.block _ (by omega)).trans R2
  have B1 := bW.trans (b1.mono bW.size)
  have O1 := hid o1
  have HW := hid hW
  clear o1 hW zW R1 R2 bW b1
  have c3 : W1.cell? ⟨w.heap.size + 1 + 1, 5, none⟩ = some (.slice none 0 0) := by rw [cell_of_row _ _ _ _ _ _ S2]; rfl
  have fz : W1.frozen? ⟨w.heap.size + 1 + 1, 5, none⟩ = false := frozen_of_row _ _ _ _ _ S2
  have T2 := hid (heap_setCell_same W1 (w.heap.size + 1 + 1) 5 _ 41 (.slice (some ⟨W.heap.size, 0, none⟩) n n) S2)
  have T1 := hid ((heap_setCell_other W1 ⟨w.heap.size + 1 + 1, 5, none⟩ (w.heap.size + 1) (.slice (some ⟨W.heap.size, 0, none⟩) n n) (by simp)).trans S1)
  have BC := hid (B1.setCell (p := ⟨w.heap.size + 1 + 1, 5, none⟩) (by simp; omega) (.slice (some ⟨W.heap.size, 0, none⟩) n n))
  clear S1 S2
  go_wp2_with (first
    | (refine wpList_load_row rfl 41 (.tmp 3) rfl (w.heap.size + 1 + 1) rfl 41 _ (0, 0) _ T2.out Try.underlying41 rfl sizeRc ?_)
    | (refine wpList_store_row rfl 41 (.tmp 2) (.tmp 23) rfl (w.heap.size + 1) #[.int .i64 K, .int .i64 L, .int .i64 X, .int .i64 P, .int .i64 S, .slice (some ⟨W.heap.size, 0, none⟩) n n] rfl rfl 41 _ T1.out ?s1 ?s2 ?s3 ?_))
  case s1 => exact sizeRc
  case s2 => rfl
  case s3 => simp [Value.oneCell']
  have hW := HW.out
  refine bodyPost_ret (results_cell_row Try.results19 _ _ (w.heap.size + 1) 41 #[.int .i64 K, .int .i64 L, .int .i64 X, .int .i64 P, .int .i64 S, .slice (some ⟨W.heap.size, 0, none⟩) n n] (0, 0) _ rfl (setRow_heap _ _ _ _ _ _ T1.out) Try.underlying41 rfl sizeRc) rfl ⟨W.heap.size, rfl, owns_base (owns_at O1.out fun k hk => ?_) (by omega), below_setRow BC.out (by omega) _⟩
  rw [setRow_other _ _ _ _ (by omega), heap_setCell_other _ _ _ _ (by simp; omega)]

theorem szRecord (K L X P S : Int) (ad : Option Addr) (n cap : Nat) (left : Int) (hn : n ≤ 9223372036854775807) (h0 : 0 ≤ left) (h1 : left ≤ 1048576) (w : World) :
    Calls Try.prog 14 #[.agg #[.int .i64 K, .int .i64 L, .int .i64 X, .int .i64 P, .int .i64 S, .slice ad n cap], .int .i64 left] w fun e w' => e = .returned (.int .i64 (lft left n)) ∧ Below w.heap.size w w' := by
  have HA := hid (show Below w.heap.size w (w.alloc (.cells #[.int .i64 K, .int .i64 L, .int .i64 X, .int .i64 P, .int .i64 S, .slice ad n cap] 38)) from (Below.refl _ _).alloc (Nat.le_refl _) _)
  have hz := szByteS ad n cap left hn h0 h1
  by_cases h : left < n
  · rw [show lft left n = -1 by unfold lft; rw [if_pos h]] at hz ⊢
    have HZ := hid hz
    clear hz
    go_enter Try.func14, Try.ntmps14
    go_wp2_with fail
    refine (HZ.out _).mono ?_
    rintro e w1 ⟨rfl, rfl⟩
    go_wp2_with fail
    go_ret
    exact ⟨rfl, HA.out⟩
  · rw [show lft left n = left - n by unfold lft; rw [if_neg h]] at hz ⊢
    have q : ¬ left - (n : Int) < 0 := by omega
    have HZ := hid hz
    clear hz
    go_enter Try.func14, Try.ntmps14
    go_wp2_with fail
    refine (HZ.out _).mono ?_
    rintro e w1 ⟨rfl, rfl⟩
    go_wp2_with fail
    go_ret
    exact ⟨rfl, HA.out⟩

set_option maxHeartbeats 1600000 in
theorem eqRecord (K L X P S : Int) {ad ad' : Option Addr} {n : Nat} (cap cap' : Nat) {zs : List Int} {w : World} (h : Reads w ad n zs) (h' : Reads w ad' n zs) (hn : n ≤ 2097152) :
    Calls Try.prog 24 #[.agg #[.int .i64 K, .int .i64 L, .int .i64 X, .int .i64 P, .int .i64 S, .slice ad n cap], .agg #[.int .i64 K, .int .i64 L, .int .i64 X, .int .i64 P, .int .i64 S, .slice ad' n cap']] w fun e w' => e = .returned (.bool true) ∧ Below w.heap.size w w' := by
  have HA := hid (two w (.cells #[.int .i64 K, .int .i64 L, .int .i64 X, .int .i64 P, .int .i64 S, .slice ad n cap] 41) (.cells #[.int .i64 K, .int .i64 L, .int .i64 X, .int .i64 P, .int .i64 S, .slice ad' n cap'] 41))
  have q1 := hid (h.below HA.out (Nat.le_refl _))
  have q2 := hid (h'.below HA.out (Nat.le_refl _))
  have eK : (K != K) = false := by simp
  have eL : (L != L) = false := by simp
  have eX : (X != X) = false := by simp
  have eP : (P != P) = false := by simp
  have eS : (S != S) = false := by simp
  go_enter Try.func24, Try.ntmps24
  go_wp2_with fail
  refine (eqByteS_any cap cap' q1.out q2.out hn).mono ?_
  rintro e w1 ⟨rfl, s1⟩
  have HS := hid s1
  clear s1
  go_wp2_with fail
  go_ret
  exact ⟨rfl, HA.out.trans (HS.out.below _)⟩

end Go.Proofs.Ytdlddgejpcbofaa
