/- The library's Grow and Concat, at two lists of bytes. -/
import Derived.Test.YtkfhfjghfadofaaGreatMgb
import Derived.Lib.AppendZeros
import Derived.Laws.AppendOwnNone
namespace Go.Proofs.YtkfhfjghfadofaaGreat
open Go.RowKit
theorem owns_zeros (w : World) (n : Nat) (hn : n ≤ 2097152) : ((w.alloc (.cells (Builtin.zeroCells #[Value.int .u8 0] n ++ Builtin.zeroCells #[Value.int .u8 0] (grownCap w n 0 5 - n)) 5)).drew).ownsRow w.heap.size 5 1 (.slice (some ⟨w.heap.size, 0, none⟩) 0 (grownCap w n 0 5)) 0 (bys []) := by
 have hge := grownCap_ge w n 0 5
 have hcm : grownCap w n 0 5 ≤ maxLen := grownCap_le_maxLen w n 0 5 (by unfold maxLen; omega)
 refine ⟨rfl, .inr ⟨w.heap.size, _, _, rfl, Nat.le_refl _, heap_alloc_new w _, Nat.zero_le _, hcm, ?_, ?_⟩⟩
 · rw [Array.size_append, size_zeroCells, size_zeroCells]
   simp
   omega
 · simp [bys]
set_option maxRecDepth 100000 in
set_option maxHeartbeats 1600000 in
theorem slices_grow (n : Nat) (h0 : 0 < n) (hn : n ≤ 2097152) (w : World) :
 Calls Tryz.prog 178 #[.slice none 0 0, .int .i64 n] w fun e w' => ∃ v, e = .returned v ∧ w'.ownsRow w.heap.size 5 1 v 0 (bys []) ∧ Below w.heap.size w w' := by
 obtain ⟨i0, hi, hz0, hz1, hz2⟩ := info_parts Tryz.info5
 have hr := Go.Lib.run_append_nil_zeros (P := Tryz.prog) w 22 3 22 5 i0 (.int .u8 0) .i64 .i64 Tryz.underlying22 Tryz.underlying3 hi hz0 n h0 (by omega) (by omega) (by rw [hz2]; omega)
 have a1 : (0 : Int) < (n : Int) := by omega
 have a2 : ¬ (n : Int) < 0 := by omega
 have a3 : (n : Int) ≤ 2097152 := by omega
 have HO := hid (owns_zeros w n hn)
 go_enter Tryz.func178, Tryz.ntmps178
 go_wp2_with (at_builtin; refine Go.Lib.wpList_append_run _ rfl _ _ _ _ rfl _ _ rfl rfl _ _ hr ?_)
 go_ret
 exact ⟨_, rfl, HO.out, (Below.alloc1 w _).trans ((Still.drew _).below _)⟩
set_option maxRecDepth 100000 in
set_option maxHeartbeats 3200000 in
theorem slices_concat (g : Nat) {p1 : Addr} {a2 : Option Addr} {n1 n2 : Nat} (c1 c2 : Nat) (hnil : a2 = none → c2 = 0) {z1 z2 : List Int} {w : World} (r1 : Reads w (some p1) n1 z1) (r2 : Reads w a2 n2 z2) (h0 : 0 < n1) (h1 : n1 ≤ 1048576) (h2 : n2 ≤ 1048576)
 (d1 : w.cell? ⟨g, 0, none⟩ = some (.slice (some p1) n1 c1)) (d2 : w.cell? ⟨g, 1, none⟩ = some (.slice a2 n2 c2)) :
 Calls Tryz.prog 171 #[.slice (some ⟨g, 0, none⟩) 2 2] w fun e w' => ∃ v, e = .returned v ∧ w'.ownsRow w.heap.size 5 1 v (n1 + n2) (bys (z1 ++ z2)) ∧ Below w.heap.size w w' := by
 obtain ⟨i0, hi, hz0, hz1, hz2⟩ := info_parts Tryz.info5
 have hg := World.block_lt_of_cell? w _ d1
 have HG := hid hg
 have l1 := r1.len
 have l2 := r2.len
 have R1 := hid r1
 have R2 := hid r2
 have D1 := hid d1
 have D2 := hid d2
 have i1 : (0 : Int) ≤ (n1 : Int) := by omega
 have i2 : (0 : Int) ≤ (n2 : Int) := by omega
 have i3 : (n1 : Int) ≤ 1048576 := by omega
 have i4 : (n2 : Int) ≤ 1048576 := by omega
 clear hg r1 r2
 go_enter Tryz.func171, Tryz.ntmps171
 go_wp2
 go_loopw [3, 11] (fun s i wr => wr = w ∧ ((i = .int .i64 0 ∧ s = .int .i64 0) ∨ (i = .int .i64 1 ∧ s = .int .i64 n1) ∨ (i = .int .i64 2 ∧ s = .int .i64 ((n1 : Int) + n2)))) (fun _ i _ => 2 - (intOf i).toNat)
 case atStart => exact ⟨rfl, .inl ⟨rfl, rfl⟩⟩
 case round =>
  obtain ⟨rfl, hcase⟩ := hrel
  rcases hcase with ⟨rfl, rfl⟩ | ⟨rfl, rfl⟩ | ⟨rfl, rfl⟩
  · go_wp2
    go_roundw
    case rel => exact ⟨by first | trivial | rfl, .inr (.inl ⟨by go_num, by go_num⟩)⟩
    case measure => simp [intOf]
  · go_wp2
    go_roundw
    case rel => exact ⟨by first | trivial | rfl, .inr (.inr ⟨by go_num, by go_num⟩)⟩
    case measure => simp [intOf]
  · clear d1 d2
    obtain ⟨w0, hw0⟩ : ∃ w0, w0 = wr := ⟨_, rfl⟩
    subst hw0
    rw [show ((n1 : Int) + n2) = ((n1 + n2 : Nat) : Int) by omega]
    go_wp2_with fail
    refine (slices_grow (n1 + n2) (by omega) (by omega) _).mono ?_
    rintro e w1 ⟨v, rfl, o, b⟩
    have O := hid o
    have B := hid b
    clear o b
    go_wp2_with fail
    go_loopw [6, 27] (fun v2 i wr => Below w0.heap.size w0 wr ∧ ((i = .int .i64 0 ∧ wr.ownsRow w0.heap.size 5 1 v2 0 (bys [])) ∨ (i = .int .i64 1 ∧ wr.ownsRow w0.heap.size 5 1 v2 n1 (bys z1)) ∨ (i = .int .i64 2 ∧ wr.ownsRow w0.heap.size 5 1 v2 (n1 + n2) (bys (z1 ++ z2))))) (fun _ i _ => 2 - (intOf i).toNat)
    case atStart => exact ⟨B.out, .inl ⟨rfl, O.out⟩⟩
    case round =>
     obtain ⟨bq, hcase⟩ := hrel
     clear O B
     have BQ := hid bq
     have d1 := (bq.cell (p := ⟨g, 0, none⟩) HG.out).trans D1.out
     have d2 := (bq.cell (p := ⟨g, 1, none⟩) HG.out).trans D2.out
     have r1 := R1.out.below bq (Nat.le_refl _)
     have r2 := R2.out.below bq (Nat.le_refl _)
     have Q1 := hid r1
     have Q2 := hid r2
     clear bq r1 r2
     rcases hcase with ⟨rfl, o⟩ | ⟨rfl, o⟩ | ⟨rfl, o⟩
     · have O := hid o
       clear o d2
       go_wp2_with (at_builtin; refine wpList_append_own _ rfl _ _ 22 rfl w0.heap.size 5 i0 (.int .u8 0) 1 1 Tryz.underlying22 hi hz0 hz1 hz2 rfl (by decide) _ _ _ rfl O.out p1 n1 c1 (bys z1) rfl ?k2 Q1.out.news (bys_one _) ?k4 ?k5 BQ.out.size ?_)
       case k2 => simp [bys_length, l1]
       case k4 => unfold maxLen; omega
       case k5 => omega
       intro v' w' o' g' _
       have B' := hid (BQ.out.grown g' BQ.out.size (fun k hk => (O.out.lt k hk).1))
       have O' := hid (show w'.ownsRow w0.heap.size 5 1 v' n1 (bys z1) by simpa [bys] using o')
       clear o' g' O
       go_wp2
       go_roundw
       case rel => exact ⟨B'.out, .inr (.inl ⟨by go_num, O'.out⟩)⟩
       case measure => simp [intOf]
     · have O := hid o
       clear o d1
       rcases ha : a2 with _ | p2
       · subst ha
         obtain rfl := hnil rfl
         obtain rfl : n2 = 0 := by
          rcases Q2.out.cells with h0 | ⟨b, off, e, _⟩
          · exact h0
          · cases e
         obtain rfl : z2 = [] := List.eq_nil_of_length_eq_zero l2
         go_wp2_with (at_builtin; refine wpList_append_own_none rfl _ _ 22 rfl w0.heap.size 5 i0 1 Tryz.underlying22 hi _ _ _ rfl O.out rfl ?_)
         go_roundw
         case rel => exact ⟨_, _, _, ⟨BQ.out, .inr (.inr ⟨rfl, O.out⟩)⟩, rfl, rfl, rfl⟩
         case measure => simp [intOf]
       · subst ha
         go_wp2_with (at_builtin; refine wpList_append_own _ rfl _ _ 22 rfl w0.heap.size 5 i0 (.int .u8 0) 1 1 Tryz.underlying22 hi hz0 hz1 hz2 rfl (by decide) _ _ _ rfl O.out p2 n2 c2 (bys z2) rfl ?k2 Q2.out.news (bys_one _) ?k4 ?k5 BQ.out.size ?_)
         case k2 => simp [bys_length, l2]
         case k4 => unfold maxLen; omega
         case k5 => omega
         intro v' w' o' g' _
         have B' := hid (BQ.out.grown g' BQ.out.size (fun k hk => (O.out.lt k hk).1))
         have O' := hid (show w'.ownsRow w0.heap.size 5 1 v' (n1 + n2) (bys (z1 ++ z2)) by rw [bys_append]; exact o')
         clear o' g' O
         go_wp2
         go_roundw
         case rel => exact ⟨B'.out, .inr (.inr ⟨by go_num, O'.out⟩)⟩
         case measure => simp [intOf]
     · have O := hid o
       clear o d1 d2
       go_wp2
       go_ret
       exact ⟨_, rfl, O.out, BQ.out⟩
end Go.Proofs.YtkfhfjghfadofaaGreat
