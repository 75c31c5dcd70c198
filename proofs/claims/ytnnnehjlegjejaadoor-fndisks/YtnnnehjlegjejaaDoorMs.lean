/- The contract of the program's makeSafe: a sector's bytes are written over. Conditions: rows of 64 bytes. -/
import Derived.Test.YtnnnehjlegjejaaDoorDl
namespace Go.Proofs.YtnnnehjlegjejaaDoor
open Go.RowKit

theorem step_copy {P : Program} {ops : Array Oper} {o : Oper} {a : Act} {w w' : World} {K : Act → World → Prop} {Q : Exit → Act → World → Prop} {E : Prop} (hgd : o.guard = none) (d s : Operand) (dT sT : TypeId)
    (ho : o.op = .call { callee := .builtin .copy, args := #[d, s], argTypes := #[dT, sT] }) {vd vs r : Value} (hd : a.eval d = vd) (hs : a.eval s = vs)
    (hrun : (Builtin.copy_ #[dT, sT] o.type #[vd, vs]).run P w = .ok r w') (h : K (a.put o.dst r) w') : if Region.wanted o (yielded ops a.tmps) = true then Oper.wp P o a w K Q else E := by
  have hw : Region.wanted o (yielded ops a.tmps) = true := by simp [Region.wanted, hgd]
  rw [if_pos hw]
  unfold Oper.wp execOp
  simp only [ho, resolve, invoke, builtin, Sem.run_bind, Sem.run_pure, Result.andThen_ok, List.map_toArray, List.map_cons, List.map_nil, hd, hs, hrun]
  exact h
theorem cell_setRow_ne (w : World) {g : Nat} (cs : Array Value) {a : Addr} (h : a.block ≠ g) : (w.setRow g cs).cell? a = w.cell? a := World.cell?_of_block (setRow_other w g a.block cs h)
theorem size5 : (Tryd.prog.info? 5).map (·.size) = some 1 := by kernel_rfl

set_option maxRecDepth 100000 in
set_option maxHeartbeats 3200000 in
theorem impl_makeSafe {p gr nS c j g cap b o cx lo : Nat} {xs0 : List Value} {zs : List Int} {w : World} (hc0 : w.cell? ⟨p, 0, none⟩ = some (.slice (some ⟨gr, 0, none⟩) nS c)) (hcj : w.cell? ⟨gr, j, none⟩ = some (.slice (some ⟨g, 0, none⟩) 64 cap)) (hj : j < nS) (hpg : p ≠ g) (hrg : gr ≠ g)
    (hown : w.ownsRow lo 5 1 (.slice (some ⟨g, 0, none⟩) 64 cap) 64 xs0) (hr : Reads w (some ⟨b, o, none⟩) 64 zs) :
    Calls Tryd.prog 62 #[.pointer (some ⟨p, 0, none⟩), .agg #[.int .i64 j, .slice (some ⟨b, o, none⟩) 64 cx]] w fun e w' => (∃ v, e = .returned v) ∧ w'.ownsRow lo 5 1 (.slice (some ⟨g, 0, none⟩) 64 cap) 64 (bys zs) ∧ w.grownBy w' (some g) := by
  rcases hown.2 with ⟨e, _⟩ | ⟨g1, cap1, cur, e, hlo, hg, hnc, hcm, hcs, htk⟩
  · cases e
  obtain ⟨e1, _, rfl⟩ := Value.slice.inj e
  obtain rfl : g = g1 := by simpa using e1
  have hgl : g < w.heap.size := (Array.getElem?_eq_some_iff.1 hg).1
  have bA := (Below.alloc1 w (.cells #[.int .i64 j, .slice (some ⟨b, o, none⟩) 64 cx] 40)).drew
  have x0 : World.heap ((w.alloc (.cells #[.int .i64 j, .slice (some ⟨b, o, none⟩) 64 cx] 40)).drew) = (w.alloc (.cells #[.int .i64 j, .slice (some ⟨b, o, none⟩) 64 cx] 40)).heap := rfl
  have x1 := heap_alloc_new w (.cells #[.int .i64 j, .slice (some ⟨b, o, none⟩) 64 cx] 40)
  have x1d : (w.alloc (.cells #[.int .i64 j, .slice (some ⟨b, o, none⟩) 64 cx] 40)).drew.heap[w.heap.size]? = some (.cells #[.int .i64 j, .slice (some ⟨b, o, none⟩) 64 cx] 40) := x1
  have hl := hr.len
  have hrun := run_copy_row (P := Tryd.prog) (w.alloc (.cells #[.int .i64 j, .slice (some ⟨b, o, none⟩) 64 cx] 40)).drew 22 22 3 5 g 0 64 cap ⟨b, o, none⟩ 64 cx cur 5 (bys zs) Tryd.underlying22 size5 ((bA.block g hgl).trans hg) (by rw [bys_length, hl]; rfl) (hr.below bA (Nat.le_refl _)).news (by rw [bys_length, hl]; omega) (bys_one _)
  have HRUN := hid hrun
  have HG := hid (And.intro hg (And.intro hlo (And.intro hnc (And.intro hcm hcs))))
  have HL := hid (And.intro hl hgl)
  have HX := hid x1
  have hj0 : (0 : Int) ≤ (j : Int) := by omega
  have hj1 : (j : Int) < (nS : Int) := by omega
  have HK' := hid (show ∀ X, Below w.heap.size w X → X.cell? ⟨p, 0, none⟩ = some (.slice (some ⟨gr, 0, none⟩) nS c) ∧ X.cell? ⟨gr, j, none⟩ = some (.slice (some ⟨g, 0, none⟩) 64 cap) from fun X bb => ⟨(bb.cell (p := ⟨p, 0, none⟩) (World.block_lt_of_cell? w _ hc0)).trans hc0, (bb.cell (p := ⟨gr, j, none⟩) (World.block_lt_of_cell? w _ hcj)).trans hcj⟩)
  have d0 : (w.alloc (.cells #[.int .i64 j, .slice (some ⟨b, o, none⟩) 64 cx] 40)).drew.cell? ⟨w.heap.size, 0, none⟩ = some (.int .i64 j) := by rw [cell_of_row _ _ _ _ _ _ x1d]; rfl
  have d1 : (w.alloc (.cells #[.int .i64 j, .slice (some ⟨b, o, none⟩) 64 cx] 40)).drew.cell? ⟨w.heap.size, 1, none⟩ = some (.slice (some ⟨b, o, none⟩) 64 cx) := by rw [cell_of_row _ _ _ _ _ _ x1d]; rfl
  have HD := hid (And.intro d0 d1)
  have HN := hid (And.intro hpg (And.intro hrg (show w.heap.size ≠ g by omega)))
  clear hpg hrg hrun hg hlo hnc hcm hcs htk hl hgl x0 x1 x1d bA hown hr hc0 hcj d0 d1 e e1
  go_enter Tryd.func62, Tryd.ntmps62
  go_wp2
  go_region_held3 (fun W => (W.cell? ⟨p, 0, none⟩ = some (.slice (some ⟨gr, 0, none⟩) nS c) ∧ W.cell? ⟨gr, j, none⟩ = some (.slice (some ⟨g, 0, none⟩) 64 cap)) ∧ W.cell? ⟨w.heap.size, 0, none⟩ = some (.int .i64 j) ∧ W.cell? ⟨w.heap.size, 1, none⟩ = some (.slice (some ⟨b, o, none⟩) 64 cx))
    (first | exact ⟨HK'.out _ ((Below.alloc1 w _).drew), HD.out⟩ | exact ⟨⟨(cell_setRow_ne _ _ HN.out.1).trans (HK'.out _ ((Below.alloc1 w _).drew)).1, (cell_setRow_ne _ _ HN.out.2.1).trans (HK'.out _ ((Below.alloc1 w _).drew)).2⟩, (cell_setRow_ne _ _ HN.out.2.2).trans HD.out.1, (cell_setRow_ne _ _ HN.out.2.2).trans HD.out.2⟩)
    ((refine step_copy (by rfl) _ _ _ _ (by rfl) (by rfl) (by rfl) HRUN.out ?_))
  go_wp2
  obtain ⟨hg, hlo, hnc, hcm, hcs⟩ := HG.out
  obtain ⟨hl, hgl⟩ := HL.out
  go_end0
  refine ⟨⟨_, rfl⟩, ⟨by rw [bys_length, hl], .inr ⟨g, cap, _, rfl, hlo, setRow_heap _ g cur _ 5 (0, 0) ((alloc_old w _ g hgl).trans hg), hnc, hcm, ?_, ?_⟩⟩, rfl, rfl, rfl, ?_, ?_⟩
  · simp only [List.size_toArray, List.length_append, List.length_take, List.length_drop, Array.length_toList, bys_length, hl]
    omega
  · simp only [List.take_zero, List.nil_append]
    rw [show (64 * 1 : Nat) = (bys zs).length by rw [bys_length, hl]]
    exact List.take_left
  · simp
  · intro k hk hne
    rw [setRow_other _ _ _ _ (fun e => hne (by rw [e]))]
    exact alloc_old w _ k hk
end Go.Proofs.YtnnnehjlegjejaaDoor
