/- The contracts of the specification's DiskNew and of the program's. No conditions. -/
import Derived.Test.YtnnnehjlegjejaaDoorDt3
import Derived.Test.YtnnnehjlegjejaaDoorDe
import Derived.Deep.AppendLies
import Derived.Test.YtnnnehjlegjejaaDoorRk
namespace Go.Proofs.YtnnnehjlegjejaaDoor
open Go.RowKit

def zeros : List Int := List.replicate 64 0
def zrow : Array Value := madeCells #[.int .u8 0] 64
theorem bel_al {a w : World} (h : Below a.heap.size a w) (o : Obj) : Below a.heap.size a (w.alloc o) := h.alloc h.size o
theorem bel_dN {B : Nat} {a w : World} (h : Below B a w) (k : Nat) : Below B a (w.drewN k) := h.trans (Below.drewN w k)
theorem heap_new2 (w : World) (a b : Obj) : ((w.alloc a).alloc b).heap[w.heap.size + 1]? = some b := by
  have := heap_alloc_new (w.alloc a) b
  rwa [alloc_size] at this
theorem heap_new1 (w : World) (a b : Obj) : ((w.alloc a).alloc b).heap[w.heap.size]? = some a := by
  rw [alloc_old _ _ _ (by simp)]
  exact heap_alloc_new w a

/-- A row of byte rows, one more appended to it. -/
theorem Bands.grow {wr X w1 : World} {base k : Nat} {a : Option Addr} {c : Nat} {xs : List Value} {ss : List (List Int)} {v : Value} {z : List Int} (hB : Bands wr base wr.heap.size xs ss) (hbase : base ≤ wr.heap.size) (bX : Below wr.heap.size wr X)
    (oX : X.ownsRow wr.heap.size 5 1 v z.length (bys z)) (bd : ∀ j, 0 ≤ z.getD j 0 ∧ z.getD j 0 ≤ 255) {e : TypeId} {s n : Nat} {cs : List Value} (hown : X.ownsRow base e s (.slice a k c) n cs) (hne : (5 : TypeId) ≠ e) (hg : X.grownBy w1 (Value.slice a k c).ownBlock) : Bands w1 base w1.heap.size (xs ++ [v]) (ss ++ [z]) := by
  have h1 := ((hB.agree (Agree.below bX (Nat.le_refl _))).snoc hbase bX.size oX bd (Nat.le_refl _)).mono (Nat.le_refl _) hg.size
  exact h1.beside hg (fun i => owns_ne (h1.own i) hown hne)

theorem cell_old {w : World} {a : Addr} {v : Value} (o : Obj) (h : w.cell? a = some v) : (w.alloc o).cell? a = some v := ((Below.alloc1 w o).cell (World.block_lt_of_cell? w a h)).trans h
theorem froz_old {w : World} {a : Addr} {v : Value} {b : Bool} (o : Obj) (h : w.cell? a = some v) (hf : w.frozen? a = b) : (w.alloc o).frozen? a = b := ((Below.alloc1 w o).frozen (World.block_lt_of_cell? w a h)).trans hf
theorem zrow_list : zrow.toList = bys zeros := by
  unfold zrow
  rw [toList_madeCells_one]
  rfl
theorem zeros_bd : ∀ j, 0 ≤ zeros.getD j 0 ∧ zeros.getD j 0 ≤ 255 := by
  intro j
  unfold zeros
  rw [List.getD_eq_getElem?_getD, List.getElem?_replicate]
  split <;> simp
theorem replicate_snoc {α : Type} (k : Nat) (z : α) : List.replicate (k + 1) z = List.replicate k z ++ [z] := List.replicate_succ'
theorem mk64 (w : World) : (Instr.makeSlice 22 (.int .i64 64) (.int .i64 64)).run Tryd.prog w = .ok (.slice (some ⟨w.heap.size, 0, none⟩) 64 64) (w.alloc (.cells zrow 5)) := by
  obtain ⟨i0, hi, hz0, hz1, hz2⟩ := info_parts Tryd.info5
  have := run_make (P := Tryd.prog) w 22 5 i0 (.int .u8 0) Tryd.underlying22 hi hz0 .i64 .i64 64 64 (by omega) (by omega) (by rw [hz2]; omega) (by omega)
  rw [this, hz1]
  rfl

set_option maxRecDepth 100000 in
set_option maxHeartbeats 3200000 in
theorem spec_DiskNew (n : Int) (w : World) (h1 : 1 ≤ n) (h2 : n ≤ 512) :
    Calls Tryd.prog 56 #[.int .i64 n] w fun e w' => ∃ aS cS, e = .returned (.agg #[.slice aS n.toNat cS, .slice none 0 0, .int .i64 (-1), .bool false]) ∧ OwnD w' w.heap.size w'.heap.size (.slice aS n.toNat cS) (.slice none 0 0) (List.replicate n.toNat zeros) [] ∧ Below w.heap.size w w' := by
  obtain ⟨i0, hi, hz0, hz1, hz2⟩ := info_parts Tryd.info22
  obtain ⟨m, rfl⟩ := Int.eq_ofNat_of_zero_le (show 0 ≤ n by omega)
  have q1 : ¬ (m : Int) < 1 := by omega
  have q2 : ¬ (512 : Int) < m := by omega
  have hmk := mk64
  go_enter Tryd.func56, Tryd.ntmps56
  go_wp2
  go_loopw [4] (fun i wr => ∃ (k : Nat) (a : Option Addr) (c : Nat) (xs : List Value), k ≤ m ∧ i = .int .i64 k ∧ xs.length = k ∧ Hid (wr.heap[w.heap.size]? = some (.cells #[.slice none 0 0, .slice none 0 0, .int .i64 0, .bool false] 27)) ∧ Hid (wr.heap[w.heap.size + 1]? = some (.cells #[.slice a k c, .slice none 0 0, .int .i64 0, .bool false] 27)) ∧ Hid (wr.ownsRow (w.heap.size + 2) 22 1 (.slice a k c) k xs) ∧ Hid (Bands wr (w.heap.size + 2) wr.heap.size xs (List.replicate k zeros)) ∧ Hid (Below w.heap.size w wr) ∧ Hid (w.heap.size + 2 ≤ wr.heap.size)) (fun i _ => m - (intOf i).toNat)
  case atStart =>
    have b0 := two w (.cells #[.slice none 0 0, .slice none 0 0, .int .i64 0, .bool false] 27) (.cells #[.slice none 0 0, .slice none 0 0, .int .i64 0, .bool false] 27)
    refine ⟨0, none, 0, [], Nat.zero_le _, rfl, rfl, hid ?_, hid ?_, hid (World.ownsRow_nil _ _ _ _), hid (Bands.nil _ _ _), hid b0, hid (by simp)⟩
    · rw [alloc_old _ _ _ (by simp)]; exact heap_alloc_new _ _
    · have := heap_alloc_new (w.alloc (.cells #[.slice none 0 0, .slice none 0 0, .int .i64 0, .bool false] 27)) (.cells #[.slice none 0 0, .slice none 0 0, .int .i64 0, .bool false] 27)
      rwa [alloc_size] at this
  case round =>
    obtain ⟨k, a, c, xs, hk, rfl, hx, hr2, hr3, hown, hB, hnx, hsz⟩ := hrel
    by_cases hlt : k < m
    · have hlt' : (k : Int) < (m : Int) := by omega
      have c0 : wr.cell? ⟨w.heap.size + 1, 0, none⟩ = some (.slice a k c) := by rw [cell_of_row _ _ _ _ _ _ hr3.out]; rfl
      have f0 : wr.frozen? ⟨w.heap.size + 1, 0, none⟩ = false := frozen_of_row _ _ _ _ _ hr3.out
      have HK : ∀ X, Below wr.heap.size wr X → X.cell? ⟨w.heap.size + 1, 0, none⟩ = some (.slice a k c) ∧ X.frozen? ⟨w.heap.size + 1, 0, none⟩ = false := fun X b => ⟨(b.cell (p := ⟨w.heap.size + 1, 0, none⟩) (by have := hsz.out; show w.heap.size + 1 < _; omega)).trans c0, (b.frozen (p := ⟨w.heap.size + 1, 0, none⟩) (by have := hsz.out; show w.heap.size + 1 < _; omega)).trans f0⟩
      have HK' := hid HK
      have hne : ∀ row, (Value.slice a k c).ownBlock = some row → w.heap.size + 2 ≤ row := fun row hr => (hown.out.lt row hr).1
      have HNE := hid (show some (w.heap.size + 1) ≠ (Value.slice a k c).ownBlock from fun e => by have := hne _ e.symm; omega)
      clear HK hne
      go_wp2
      refine region_K 6 (fun W => W.cell? ⟨w.heap.size + 1, 0, none⟩ = some (.slice a k c) ∧ W.frozen? ⟨w.heap.size + 1, 0, none⟩ = false) (by kernel_rfl) ?_ (fun hHeld => ?_)
      · exact HK'.out _ ((Below.refl _ wr).drew)
      refine anyK_take (i := 0) (v := ?v1) rfl (by kernel_rfl) (by kernel_rfl) (by kernel_rfl) (by kernel_rfl) (fun _ _ _ h => h) (by rfl) hHeld ?hy1 (some 17) (by rfl) ?rest1
      case hy1 => (intro W hSw; (try dsimp only at hSw); go_simp; (try with_reducible rfl))
      try simp only [Act.put]
      try simp only [List.setIfInBounds_toArray]
      try simp only [List.set_cons_succ, List.set_cons_zero]
      refine anyK_take (i := 1) (v := ?v2) rfl (by kernel_rfl) (by kernel_rfl) (by kernel_rfl) (by kernel_rfl) (fun _ _ _ h => h) (by rfl) hHeld ?hy2 (some 18) (by rfl) ?rest2
      case hy2 => (intro W hSw; (try dsimp only at hSw); go_simp; (try with_reducible rfl))
      try simp only [Act.put]
      try simp only [List.setIfInBounds_toArray]
      try simp only [List.set_cons_succ, List.set_cons_zero]
      refine anyK_step (i := 2) (by kernel_rfl) rfl (fun K hK => ?_)
      go_simp
      refine hK.out _ _ ?_ (fun hH2 => ?_)
      · exact HK'.out _ ((bel_al (Below.refl _ wr) _).drew)
      clear hK K hHeld
      have hHeld := hH2
      clear hH2
      try simp only [Act.put]
      try simp only [List.setIfInBounds_toArray]
      try simp only [List.set_cons_succ, List.set_cons_zero]
      refine anyK_step (i := 3) (by kernel_rfl) rfl (fun K hK => ?_)
      go_simp
      refine hK.out _ _ ?_ (fun hH2 => ?_)
      · exact HK'.out _ ((bel_al (bel_al (Below.refl _ wr) _) _).drew)
      clear hK K hHeld
      have hHeld := hH2
      clear hH2
      try simp only [Act.put]
      try simp only [List.setIfInBounds_toArray]
      try simp only [List.set_cons_succ, List.set_cons_zero]
      refine anyK_step (i := 4) (by kernel_rfl) rfl (fun K hK => ?_)
      refine step_append_lies _ (by rfl) _ _ _ (by rfl) (w.heap.size + 2) 22 i0 (.slice none 0 0) 1 24 Tryd.underlying24 hi hz0 hz1 hz2 rfl (by omega) (.slice a k c) k xs (by rfl) (owns_below (bel_al (bel_al (Below.refl _ wr) _) _).drew (Nat.le_refl _) hown.out) ⟨wr.heap.size + 1, 0, none⟩ 1 1 [.slice (some ⟨wr.heap.size, 0, none⟩) 64 64] (by rfl) rfl (World.news_of_block (heap_new2 wr _ _)) (by simp [Value.oneCell']) (by omega) (by unfold maxLen; omega) (by omega) (by have := hsz.out; simp; omega) _ rfl ?_
      intro g cap w1 hown1 hgrow hat hlt1
      have k0 := hgrow.cell (HK'.out _ ((bel_al (bel_al (Below.refl _ wr) _) _).drew)).1 HNE.out
      have k1 := (hgrow.frozen_far ⟨w.heap.size + 1, 0, none⟩ (by have := hsz.out; simp; omega) HNE.out).trans (HK'.out _ ((bel_al (bel_al (Below.refl _ wr) _) _).drew)).2
      refine hK.out _ _ ?_ (fun hH2 => ?_)
      · exact ⟨k0, k1⟩
      clear hK K hHeld
      have hHeld := hH2
      clear hH2
      try simp only [Act.put]
      try simp only [List.setIfInBounds_toArray]
      try simp only [List.set_cons_succ, List.set_cons_zero]
      refine anyK_take (i := 5) (v := ?v6) rfl (by kernel_rfl) (by kernel_rfl) (by kernel_rfl) (by kernel_rfl) (fun _ _ _ h => h) (by rfl) hHeld ?hy6 (some 22) (by rfl) ?rest6
      case hy6 => (intro W hSw; (try dsimp only at hSw); go_simp; (try with_reducible rfl))
      try simp only [Act.put]
      try simp only [List.setIfInBounds_toArray]
      try simp only [List.set_cons_succ, List.set_cons_zero]
      refine anyK_last (by kernel_rfl) rfl (fun K hK => ?_)
      go_simp
      refine hK.out _ _ ?_
      clear hK K hHeld
      refine anyK_done (by kernel_rfl) ?_ _
      have bX := (bel_al (bel_al (Below.refl wr.heap.size wr) (.cells zrow 5)) (.cells #[.slice (some ⟨wr.heap.size, 0, none⟩) 64 64] 22)).drew
      have oX : World.ownsRow ((wr.alloc (.cells zrow 5)).alloc (.cells #[.slice (some ⟨wr.heap.size, 0, none⟩) 64 64] 22)).drew wr.heap.size 5 1 (.slice (some ⟨wr.heap.size, 0, none⟩) 64 64) zeros.length (bys zeros) := by
        have := ((World.ownsRow_lit (e := 5) (size := 1) wr zrow 64 (Nat.le_refl wr.heap.size) (by unfold maxLen; omega) (by unfold zrow; rw [size_madeCells])).alloc (.cells #[.slice (some ⟨wr.heap.size, 0, none⟩) 64 64] 22)).drew
        rw [zrow_list] at this
        exact this
      have hB1 := hB.out.grow hsz.out bX oX zeros_bd (owns_below bX (Nat.le_refl _) hown.out) (by decide) hgrow
      rw [← replicate_snoc] at hB1
      have V2 : w1.heap[w.heap.size]? = _ := (hgrow.block w.heap.size (by have := bX.size; have := hsz.out; omega) (fun e => by have := (hown.out.lt _ e.symm).1; omega)).trans ((bX.block w.heap.size (by have := hsz.out; omega)).trans hr2.out)
      have V3 : w1.heap[w.heap.size + 1]? = _ := (hgrow.block (w.heap.size + 1) (by have := bX.size; have := hsz.out; omega) HNE.out).trans ((bX.block (w.heap.size + 1) (by have := hsz.out; omega)).trans hr3.out)
      have U2 := hid ((heap_set_ne w1 (w.heap.size + 1) 0 w.heap.size (.slice (some ⟨g, 0, none⟩) (k + 1) cap) (by omega)).trans V2)
      have U3 := hid (heap_setCell_same w1 (w.heap.size + 1) 0 _ 27 (.slice (some ⟨g, 0, none⟩) (k + 1) cap) V3)
      have ag : Agree (w.heap.size + 2) w1.heap.size w1 (w1.setCell ⟨w.heap.size + 1, 0, none⟩ (.slice (some ⟨g, 0, none⟩) (k + 1) cap)) := fun q h1 _ => heap_set_ne _ _ _ _ _ (by omega)
      have HO := hid (owns_agree hown1 ag (fun q hq => hown1.lt q hq))
      have HBs := hid (hB1.agree ag)
      have HBl := hid (((hnx.out.trans (bX.mono hnx.out.size)).grown hgrow (Nat.le_trans hnx.out.size bX.size) (fun q hq => by have := (hown.out.lt q hq).1; omega)).setCell (p := ⟨w.heap.size + 1, 0, none⟩) (by simp) (.slice (some ⟨g, 0, none⟩) (k + 1) cap))
      have HSz := hid (show w.heap.size + 2 ≤ w1.heap.size by have := hsz.out; have := bX.size; have := hgrow.size; omega)
      clear bX oX hB1 V2 V3 ag hown1 hgrow hat hlt1 k0 k1 c0 f0 hr2 hr3 hown hB hnx hsz HK' HNE
      go_wp2
      go_roundw
      case rel => exact ⟨k + 1, some ⟨g, 0, none⟩, cap, xs ++ [.slice (some ⟨wr.heap.size, 0, none⟩) 64 64], by omega, by go_num, by simp [hx], U2, U3, HO, hid (by simpa using HBs.out), HBl, hid (by simpa using HSz.out)⟩
      case measure => simp [intOf]; omega
    · have hlt' : ¬ (k : Int) < (m : Int) := by omega
      have hkm : k = m := by omega
      subst hkm
      have c2 : wr.cell? ⟨w.heap.size + 1, 2, none⟩ = some (.int .i64 0) := by rw [cell_of_row _ _ _ _ _ _ hr3.out]; rfl
      have f2 : wr.frozen? ⟨w.heap.size + 1, 2, none⟩ = false := frozen_of_row _ _ _ _ _ hr3.out
      have T2 := hid (heap_setCell_same wr (w.heap.size + 1) 2 _ 27 (.int .i64 (-1)) hr3.out)
      have T1 := hid ((heap_set_ne wr (w.heap.size + 1) 2 w.heap.size (.int .i64 (-1)) (by omega)).trans hr2.out)
      have BC := hid (hnx.out.setCell (p := ⟨w.heap.size + 1, 2, none⟩) (by simp) (.int .i64 (-1)))
      go_wp2_with (first
        | (refine wpList_load_row rfl 27 (.tmp 3) rfl (w.heap.size + 1) rfl 27 _ (0, 0) _ T2.out Tryd.underlying27 rfl sizeDk ?_)
        | (refine wpList_store_row rfl 27 (.tmp 2) (.tmp 24) rfl w.heap.size #[.slice a k c, .slice none 0 0, .int .i64 (-1), .bool false] rfl rfl 27 _ T1.out ?s1 ?s2 ?s3 ?_))
      case s1 => simpa using sizeDk
      case s3 => simp [Value.oneCell']
      refine bodyPost_ret (results_cell_row Tryd.results56 _ _ w.heap.size 27 #[.slice a k c, .slice none 0 0, .int .i64 (-1), .bool false] (0, 0) _ rfl (setRow_heap _ _ _ _ _ _ T1.out) Tryd.underlying27 rfl sizeDk) rfl ⟨a, c, rfl, ?_, below_setRow BC.out (Nat.le_refl _) _⟩
      have ow : OwnD wr (w.heap.size + 2) wr.heap.size (.slice a k c) (.slice none 0 0) (List.replicate k zeros) [] :=
        OwnD.parts (xs := xs) (ys := []) (mid := wr.heap.size) hsz.out (Nat.le_refl _) (Nat.le_refl _) (by rw [List.length_replicate]; exact hown.out) hB.out rfl (World.ownsRow_nil _ _ _ _) (Bands.nil _ _ _)
      refine (ow.agree fun q h1 h2 => ?_).mono (by omega) (by simp)
      rw [setRow_other _ _ _ _ (by omega), heap_set_ne _ _ _ _ _ (by omega)]
end Go.Proofs.YtnnnehjlegjejaaDoor
