/- The library's Grow and Concat over entries. Conditions: at most four entries each. -/
import Derived.Test.YtphmlndkjgldkaaNc11
import Derived.Lib.AppendZeros
namespace Go.Proofs.Ytphmlndkjgldkaa
open Go.RowKit
set_option maxRecDepth 100000
theorem owns_zerosE (w : World) (n : Nat) (hn : n ≤ 2097152) : ((w.alloc (.cells (Builtin.zeroCells (Value.agg #[.int .i64 0, .int .i64 0, .float .f64 0, .slice none 0 0, .int .i64 0]).cells n ++ Builtin.zeroCells (Value.agg #[.int .i64 0, .int .i64 0, .float .f64 0, .slice none 0 0, .int .i64 0]).cells (grownCap w n 0 35 - n)) 35)).drew).ownsRow w.heap.size 35 5 (.slice (some ⟨w.heap.size, 0, none⟩) 0 (grownCap w n 0 35)) 0 [] := by
 have hge := grownCap_ge w n 0 35
 have hcm : grownCap w n 0 35 ≤ maxLen := grownCap_le_maxLen w n 0 35 (by unfold maxLen; omega)
 refine ⟨rfl, .inr ⟨w.heap.size, _, _, rfl, Nat.le_refl _, heap_alloc_new w _, Nat.zero_le _, hcm, ?_, ?_⟩⟩
 · rw [Array.size_append, size_zeroCells, size_zeroCells]
   rw [show (Value.agg #[.int .i64 0, .int .i64 0, .float .f64 0, .slice none 0 0, .int .i64 0]).cells.size = 5 from rfl]
   omega
 · simp
set_option maxHeartbeats 1600000 in
theorem grow_ents_pos (n : Nat) (h0 : 0 < n) (hn : n ≤ 2097152) (w : World) :
 Calls Try.prog 117 #[.slice none 0 0, .int .i64 n] w fun e w' => ∃ v, e = .returned v ∧ w'.ownsRow w.heap.size 35 5 v 0 [] ∧ Below w.heap.size w w' := by
 obtain ⟨i0, hi, hz0, hz1, hz2⟩ := info_parts Try.infoEn
 have hr := Go.Lib.run_append_nil_zeros (P := Try.prog) w 82 3 82 35 i0 (.agg #[.int .i64 0, .int .i64 0, .float .f64 0, .slice none 0 0, .int .i64 0]) .i64 .i64 Try.underlying82 Try.underlying3 hi hz0 n h0 (by omega) (by omega) (by rw [hz2]; omega)
 have a1 : (0 : Int) < (n : Int) := by omega
 have a2 : ¬ (n : Int) < 0 := by omega
 have a3 : (n : Int) ≤ 2097152 := by omega
 have HO := hid (owns_zerosE w n hn)
 go_enter Try.func117, Try.ntmps117
 go_wp2_with (at_builtin; refine Go.Lib.wpList_append_run _ rfl _ _ _ _ rfl _ _ rfl rfl _ _ hr ?_)
 go_ret
 exact ⟨_, rfl, HO.out, (Below.alloc1 w _).trans ((Still.drew _).below _)⟩
theorem grow_ents (n : Nat) (hn : n ≤ 2097152) (w : World) :
 Calls Try.prog 117 #[.slice none 0 0, .int .i64 n] w fun e w' => ∃ v, e = .returned v ∧ w'.ownsRow w.heap.size 35 5 v 0 [] ∧ Below w.heap.size w w' := by
 by_cases h0 : 0 < n
 · exact grow_ents_pos n h0 hn w
 · obtain rfl : n = 0 := by omega
   go_enter Try.func117, Try.ntmps117
   go_wp2_with fail
   go_ret
   exact ⟨_, rfl, World.ownsRow_nil _ _ _ _, Below.refl _ _⟩
def At5 (w : World) (p : Addr) (n : Nat) (L : List Value) : Prop := L.length = n * 5 ∧ ∀ j u, L[j]? = some u → w.cell? (p.add j) = some u
theorem At5.below {w w' : World} {p : Addr} {n : Nat} {L : List Value} (h : At5 w p n L) (hb : Below w.heap.size w w') : At5 w' p n L :=
 ⟨h.1, fun j u hu => by
  have e := h.2 j u hu
  exact (hb.cell (World.block_lt_of_cell? w _ e)).trans e⟩
set_option maxHeartbeats 3200000 in
theorem concat_ents (G : Nat) {p1 p2 : Addr} {n1 n2 c1 c2 : Nat} {L1 L2 : List Value} {w : World} (o1 : At5 w p1 n1 L1) (o2 : At5 w p2 n2 L2) (h1c : ∀ u ∈ L1, u.oneCell' = true) (h2c : ∀ u ∈ L2, u.oneCell' = true) (hn1 : n1 ≤ 4) (hn2 : n2 ≤ 4)
 (d1 : w.cell? ⟨G, 0, none⟩ = some (.slice (some p1) n1 c1)) (d2 : w.cell? ⟨G, 1, none⟩ = some (.slice (some p2) n2 c2)) :
 Calls Try.prog 93 #[.slice (some ⟨G, 0, none⟩) 2 2] w fun e w' => ∃ a' c', e = .returned (.slice a' (n1 + n2) c') ∧ w'.ownsRow w.heap.size 35 5 (.slice a' (n1 + n2) c') (n1 + n2) (L1 ++ L2) ∧ Below w.heap.size w w' := by
 obtain ⟨i0, hi, hz0, hz1, hz2⟩ := info_parts Try.infoEn
 have HG := hid (World.block_lt_of_cell? w _ d1)
 have HO1 := hid o1
 have HO2 := hid o2
 have H1c := hid h1c
 have H2c := hid h2c
 have D1 := hid d1
 have D2 := hid d2
 have i1 : (0 : Int) ≤ (n1 : Int) := by omega
 have i2 : (0 : Int) ≤ (n2 : Int) := by omega
 have i3 : (n1 : Int) ≤ 4 := by omega
 have i4 : (n2 : Int) ≤ 4 := by omega
 clear o1 o2 h1c h2c
 go_enter Try.func93, Try.ntmps93
 go_wp2
 go_loopw [3, 11] (fun s i wr => wr = w ∧ ((i = .int .i64 0 ∧ s = .int .i64 0) ∨ (i = .int .i64 1 ∧ s = .int .i64 n1) ∨ (i = .int .i64 2 ∧ s = .int .i64 ((n1 : Int) + n2)))) (fun _ i _ => 2 - (intOf i).toNat)
 case atStart => exact ⟨rfl, .inl ⟨rfl, rfl⟩⟩
 case round =>
  obtain ⟨rfl, hcase⟩ := hrel
  rcases hcase with ⟨rfl, rfl⟩ | ⟨rfl, rfl⟩ | ⟨rfl, rfl⟩
  · go_wp2
    go_roundw
    case rel => exact ⟨by first | trivial | rfl, .inr (.inl ⟨by go_num, by go_num⟩)⟩
    case measure => simp [intOf]
  · go_wp2
    go_roundw
    case rel => exact ⟨by first | trivial | rfl, .inr (.inr ⟨by go_num, by go_num⟩)⟩
    case measure => simp [intOf]
  · clear d1 d2
    obtain ⟨w0, hw0⟩ : ∃ w0, w0 = wr := ⟨_, rfl⟩
    subst hw0
    rw [show ((n1 : Int) + n2) = ((n1 + n2 : Nat) : Int) by omega]
    have i5 : (0 : Int) ≤ ((n1 + n2 : Nat) : Int) := by omega
    go_wp2_with fail
    refine (grow_ents (n1 + n2) (by omega) _).mono ?_
    rintro e w1 ⟨v, rfl, o, b⟩
    have O := hid o
    have B := hid b
    clear o b i5
    go_wp2_with fail
    go_loopw [6, 27] (fun v2 i wr => Below w0.heap.size w0 wr ∧ ((i = .int .i64 0 ∧ wr.ownsRow w0.heap.size 35 5 v2 0 []) ∨ (i = .int .i64 1 ∧ wr.ownsRow w0.heap.size 35 5 v2 n1 L1) ∨ (i = .int .i64 2 ∧ wr.ownsRow w0.heap.size 35 5 v2 (n1 + n2) (L1 ++ L2)))) (fun _ i _ => 2 - (intOf i).toNat)
    case atStart => exact ⟨B.out, .inl ⟨rfl, O.out⟩⟩
    case round =>
     obtain ⟨bq, hcase⟩ := hrel
     clear O B
     have BQ := hid bq
     have d1 := (bq.cell (p := ⟨G, 0, none⟩) HG.out).trans D1.out
     have d2 := (bq.cell (p := ⟨G, 1, none⟩) HG.out).trans D2.out
     have Q1 := hid (HO1.out.below bq)
     have Q2 := hid (HO2.out.below bq)
     clear bq
     rcases hcase with ⟨rfl, o⟩ | ⟨rfl, o⟩ | ⟨rfl, o⟩
     · have O := hid o
       clear o d2
       go_wp2_with (at_builtin; refine wpList_append_row rfl _ _ 82 rfl w0.heap.size 35 i0 (.agg #[.int .i64 0, .int .i64 0, .float .f64 0, .slice none 0 0, .int .i64 0]) 5 56 Try.underlying82 hi hz0 hz1 hz2 rfl (by decide) _ 0 [] rfl O.out (some p1) n1 c1 L1 rfl Q1.out.1 (.inr ⟨_, rfl, Q1.out.2⟩) (fun e => by cases e) H1c.out ?k4 ?k5 BQ.out.size ?_)
       case k4 => unfold maxLen; omega
       case k5 => omega
       intro a' c' w' o' g'
       have B' := hid (BQ.out.grown g' BQ.out.size (fun k hk => (O.out.lt k hk).1))
       have O' := hid (show w'.ownsRow w0.heap.size 35 5 (.slice a' n1 c') n1 L1 by simpa using o')
       clear o' g' O
       go_wp2
       go_roundw
       case rel => exact ⟨B'.out, .inr (.inl ⟨by go_num, O'.out⟩)⟩
       case measure => simp [intOf]
     · have O := hid o
       clear o d1
       go_wp2_with (at_builtin; refine wpList_append_row rfl _ _ 82 rfl w0.heap.size 35 i0 (.agg #[.int .i64 0, .int .i64 0, .float .f64 0, .slice none 0 0, .int .i64 0]) 5 56 Try.underlying82 hi hz0 hz1 hz2 rfl (by decide) _ n1 L1 rfl O.out (some p2) n2 c2 L2 rfl Q2.out.1 (.inr ⟨_, rfl, Q2.out.2⟩) (fun e => by cases e) H2c.out ?k6 ?k7 BQ.out.size ?_)
       case k6 => unfold maxLen; omega
       case k7 => omega
       intro a' c' w' o' g'
       have B' := hid (BQ.out.grown g' BQ.out.size (fun k hk => (O.out.lt k hk).1))
       have O' := hid o'
       clear o' g' O
       go_wp2
       go_roundw
       case rel => exact ⟨B'.out, .inr (.inr ⟨by go_num, O'.out⟩)⟩
       case measure => simp [intOf]
     · obtain ⟨a', c', e'⟩ := own_sl o
       subst e'
       have O := hid o
       clear o d1 d2
       go_wp2
       go_ret
       exact ⟨_, _, rfl, O.out, BQ.out⟩
end Go.Proofs.Ytphmlndkjgldkaa
