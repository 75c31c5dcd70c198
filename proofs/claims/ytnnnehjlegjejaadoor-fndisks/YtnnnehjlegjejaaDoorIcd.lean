/- The contract of the program's crash, a method that changes a disk in place. Conditions: a disk that is DiskOk. -/
import Derived.Test.YtnnnehjlegjejaaDoorMs
import Derived.Test.YtnnnehjlegjejaaDoorBn
import Derived.Test.YtnnnehjlegjejaaDoorDh
namespace Go.Proofs.YtnnnehjlegjejaaDoor
open Go.RowKit

theorem row64 {w : World} {lo : Nat} {v : Value} {z : List Int} (o : w.ownsRow lo 5 1 v z.length (bys z)) (h : z.length = 64) : ∃ g c, v = .slice (some ⟨g, 0, none⟩) 64 c := by
  rcases o.2 with ⟨_, h0⟩ | ⟨g, c, _, rfl, _⟩
  · omega
  · exact ⟨g, c, by rw [h]⟩
theorem heap_ty {w : World} {p g : Nat} {cs : Array Value} {t e : TypeId} {f : Nat × Nat} {lo s n : Nat} {v : Value} {xs : List Value} (hp : w.heap[p]? = some (.cells cs t f)) (o : w.ownsRow lo e s v n xs) (hv : v.ownBlock = some g) (hne : t ≠ e) : p ≠ g := by
  rcases o.2 with ⟨rfl, _⟩ | ⟨g', c, cur, rfl, _, hg, _⟩
  · cases hv
  · simp only [Value.ownBlock, Option.some.injEq] at hv
    subst hv
    intro e
    subst e
    rw [hp] at hg
    simp only [Option.some.injEq, Obj.cells.injEq] at hg
    exact hne hg.2.1

/-- A disk that is being changed in place: its box at p, its rows between lo and hi. -/
structure Live (w : World) (lo hi p : Nat) (a1 : Option Addr) (nS c1 : Nat) (a2 : Option Addr) (nW c2 : Nat) (F : Int) (D : Bool) (xs ys : List Value) (ss : List (List Int)) (ws : List (Int × List Int)) : Prop where
  box : w.heap[p]? = some (.cells #[.slice a1 nS c1, .slice a2 nW c2, .int .i64 F, .bool D] 27)
  rs : w.ownsRow lo 22 1 (.slice a1 nS c1) nS xs
  rw : w.ownsRow lo 40 2 (.slice a2 nW c2) nW (cellsW ws ys)
  bands : Bands w lo hi (xs ++ ys) (ss ++ ws.map (·.2))
  lx : xs.length = ss.length
  ly : ys.length = ws.length
  ts : ∀ g, (Value.slice a1 nS c1).ownBlock = some g → g < hi

theorem Live.below {w w' : World} {lo hi p : Nat} {a1 : Option Addr} {nS c1 : Nat} {a2 : Option Addr} {nW c2 : Nat} {F : Int} {D : Bool} {xs ys : List Value} {ss : List (List Int)} {ws : List (Int × List Int)} (h : Live w lo hi p a1 nS c1 a2 nW c2 F D xs ys ss ws) (b : Below w.heap.size w w') (hh : hi ≤ w.heap.size) : Live w' lo hi p a1 nS c1 a2 nW c2 F D xs ys ss ws :=
  ⟨(b.block p (Array.getElem?_eq_some_iff.1 h.box).1).trans h.box, owns_below b (Nat.le_refl _) h.rs, owns_below b (Nat.le_refl _) h.rw, h.bands.agree (Agree.below b hh), h.lx, h.ly, h.ts⟩

/-- One write done. -/
theorem Live.put {w w' : World} {lo hi p : Nat} {a1 : Option Addr} {nS c1 : Nat} {a2 : Option Addr} {nW c2 : Nat} {F : Int} {D : Bool} {xs ys : List Value} {ss : List (List Int)} {ws : List (Int × List Int)} (h : Live w lo hi p a1 nS c1 a2 nW c2 F D xs ys ss ws) {j g c : Nat} (hj : j < ss.length) {z : List Int} (hz : z.length = 64) (hx : xs.getD j nilS = .slice (some ⟨g, 0, none⟩) 64 c)
    (o : w'.ownsRow lo 5 1 (.slice (some ⟨g, 0, none⟩) 64 c) 64 (bys z)) (hg : w.grownBy w' (some g)) (hb : ∀ j, 0 ≤ z.getD j 0 ∧ z.getD j 0 ≤ 255) : Live w' lo hi p a1 nS c1 a2 nW c2 F D xs ys (ss.set j z) ws ∧ lo ≤ g ∧ g < hi := by
  have hxj : (xs ++ ys).getD j nilS = .slice (some ⟨g, 0, none⟩) 64 c := by rw [getD_app, if_pos (by have := h.lx; omega)]; exact hx
  have ho := h.bands.own j
  rw [hxj] at ho
  have hir := h.bands.inr j g (by rw [hxj]; rfl)
  refine ⟨⟨?_, h.rs.kept hg (owns_ne h.rs ho (by decide)), h.rw.kept hg (owns_ne h.rw ho (by decide)), ?_, by rw [List.length_set]; exact h.lx, h.ly, h.ts⟩, hir⟩
  · rw [hg.block p (Array.getElem?_eq_some_iff.1 h.box).1 (fun e => heap_ty h.box ho rfl (by decide) (by simpa using e))]
    exact h.box
  · have := h.bands.put (i := j) (z := z) (by rw [List.length_append]; omega) (by rw [hxj]; exact hg) (by rw [hxj, hz]; exact o) hb
    rw [List.set_append_left _ _ hj] at this
    exact this

set_option maxRecDepth 100000 in
set_option maxHeartbeats 6400000 in
theorem impl_crash {lo hi p B : Nat} {a1 : Option Addr} {nS c1 : Nat} {a2 : Option Addr} {nW c2 : Nat} {F : Int} {D : Bool} {xs ys : List Value} {ss : List (List Int)} {ws : List (Int × List Int)} {aK : Option Addr} {nK : Nat} (cK : Nat) {ks : List Bool} {w : World} (h : Live w lo hi p a1 nS c1 a2 nW c2 F D xs ys ss ws) (hh : hi ≤ w.heap.size)
    (hK : ∀ X, Below B w X → ReadsB X aK nK ks) (hB1 : B ≤ lo) (hB2 : B ≤ p) (hp : hi ≤ p) (hB3 : B ≤ w.heap.size) (lS : ss.length = nS) (lW : ws.length = nW) (h64 : ∀ i, i < nS → (ss.getD i []).length = 64) (hw64 : ∀ i, i < nW → 0 ≤ (ws.getD i w0).1 ∧ (ws.getD i w0).1 < nS ∧ (ws.getD i w0).2.length = 64) (hnW : nW ≤ 600) :
    Calls Tryd.prog 43 #[.pointer (some ⟨p, 0, none⟩), .slice aK nK cK] w fun e w' => (∃ v, e = .returned v) ∧ w'.heap[p]? = some (.cells #[.slice a1 nS c1, .slice none 0 0, .int .i64 (-1), .bool false] 27) ∧ OwnD w' lo w'.heap.size (.slice a1 nS c1) (.slice none 0 0) (doneS ss ws ks false) [] ∧ Below B w w' := by
  have c0 : w.cell? ⟨p, 1, none⟩ = some (.slice a2 nW c2) := by rw [cell_of_row _ _ _ _ _ _ h.box]; rfl
  have HL := hid h
  have HKr := hid hK
  have H64 := hid h64
  have HW64 := hid hw64
  have HHh := hid (And.intro hh (And.intro hB1 (And.intro hB2 hB3)))
  have HP := hid hp
  clear h hK h64 hw64 hh hB1 hB2 hB3 hp
  go_enter Tryd.func43, Tryd.ntmps43
  go_wp2
  clear c0
  go_loopw [11] (fun i wr => ∃ (k : Nat) (S : List (List Int)), k ≤ nW ∧ i = .int .i64 k ∧ Hid (S.length = nS) ∧ Hid (∀ i, i < nS → (S.getD i []).length = 64) ∧ Hid (doneS ss ws ks false = doneS S (ws.drop k) (ks.drop k) false) ∧ Hid (Live wr lo hi p a1 nS c1 a2 nW c2 F D xs ys S ws) ∧ Hid (hi ≤ wr.heap.size) ∧ Hid (Below B w wr)) (fun i _ => nW - (intOf i).toNat)
  case atStart => exact ⟨0, ss, Nat.zero_le _, rfl, hid lS, H64, hid rfl, HL, hid HHh.out.1, hid (Below.refl _ _)⟩
  case round =>
    obtain ⟨k, S, hk, rfl, hSl, hS64, hD, hL, hhi, hBl⟩ := hrel
    by_cases hlt : k < nW
    · have hlt' : (k : Int) < (nW : Int) := by omega
      have hk0 : (0 : Int) ≤ (k : Int) := by omega
      have hL' := hL.out
      obtain ⟨gw, rfl⟩ : ∃ gw, a2 = some ⟨gw, 0, none⟩ := by
        rcases hL'.rw.2 with ⟨e, h0⟩ | ⟨gw, _, _, e, _⟩
        · omega
        · exact ⟨gw, (Value.slice.inj e).1⟩
      obtain ⟨hca, hcx⟩ := cellW_at lW (by rw [← lW]; exact hL'.ly) hL'.rw hlt
      have hyo := hL'.bands.own (xs.length + k)
      have hyr := hL'.bands.row (xs.length + k)
      rw [getD_right xs ys k nilS, hL'.lx, getD_right S _ k [], map2_getD] at hyo hyr
      obtain ⟨hA0, hA1, hz64⟩ := HW64.out k hlt
      have HST := hid (doneS_step S ws ks false k (by omega))
      have hzb : ∀ q, 0 ≤ ((ws.getD k w0).2).getD q 0 ∧ ((ws.getD k w0).2).getD q 0 ≤ 255 := by
        have := hL'.bands.bd (S.length + k)
        rw [getD_right S _ k [], map2_getD] at this
        exact this
      generalize ws.getD k w0 = pp at *
      obtain ⟨A, zs⟩ := pp
      simp only at hca hyo hyr hA0 hA1 hz64 HST hzb
      obtain ⟨j, rfl⟩ := Int.eq_ofNat_of_zero_le hA0
      have hj : j < nS := by omega
      obtain ⟨gy, cy, hy⟩ := row64 hyo hz64
      rw [hy] at hyr hcx
      obtain ⟨_, _, e1, hyR, _⟩ := hyr
      rw [hz64] at e1 hyR
      obtain ⟨rfl, _, rfl⟩ := Value.slice.inj e1
      have hxo := hL'.bands.own j
      rw [getD_app, if_pos (by have := hL'.lx; have := hSl.out; omega), getD_app, if_pos (by have := hSl.out; omega)] at hxo
      obtain ⟨gx, cx, hx⟩ := row64 hxo (hS64.out j hj)
      rw [hx, hS64.out j hj] at hxo
      have HXO := hid hxo
      obtain ⟨gr, rfl⟩ : ∃ gr, a1 = some ⟨gr, 0, none⟩ := by
        rcases hL'.rs.2 with ⟨e, h0⟩ | ⟨gr, _, _, e, _⟩
        · omega
        · exact ⟨gr, (Value.slice.inj e).1⟩
      have hcj := cell_getD hL'.rs hj
      rw [hx] at hcj
      have hcp : wr.cell? ⟨p, 0, none⟩ = some (.slice (some ⟨gr, 0, none⟩) nS c1) := by rw [cell_of_row _ _ _ _ _ _ hL'.box]; rfl
      have hpg := heap_ty hL'.box hxo rfl (by decide)
      have hrg : gr ≠ gx := fun e => (owns_ne hL'.rs hxo (by decide)).elim (fun e1 => by cases e1) (fun e1 => e1 (by rw [e]; rfl))
      have bA := Below.alloc1 wr (.cells #[.int .i64 j, .slice (some ⟨gy, 0, none⟩) 64 cy] 40)
      have hsm := hid (impl_makeSafe (w := wr.alloc (.cells #[.int .i64 j, .slice (some ⟨gy, 0, none⟩) 64 cy] 40)) (cx := cy) (cell_old _ hcp) (cell_old _ hcj) hj hpg hrg (hxo.alloc _) (hyR.below bA (Nat.le_refl _)))
      have HLA := hid (hL'.below bA hhi.out)
      have HBA := hid (hBl.out.trans (bA.mono (Nat.le_trans HHh.out.2.2.2 hBl.out.size)))
      have HhA := hid (Nat.le_trans hhi.out bA.size)
      have HZ := hid hz64
      have HX := hid hx
      have HZB := hid hzb
      have HSJ := hid hS64.out
      have hRB := HKr.out wr hBl.out
      have HLK := hid hRB.len
      clear hxo hyo hyR e1 hcj hcp hpg hrg hL' hL hhi hzb hz64 hx hA0 hA1 hy
      rw [Bool.false_or] at HST
      by_cases hin : k < nK
      · have hin' : (k : Int) < (nK : Int) := by omega
        rcases hRB.cells with h0 | ⟨bk, ok, rfl, hck⟩
        · omega
        have hkk := hck k hin
        have HC := hid hca
        cases hkept : ks.getD k false with
        | true =>
          rw [hkept] at hkk HST
          have hkk2 := cell_old (.cells #[.int .i64 j, .slice (some ⟨gy, 0, none⟩) 64 cy] 40) hkk
          clear hRB hck hkk
          go_wp2_with fail
          refine hsm.out.mono ?_
          rintro e u ⟨⟨v, rfl⟩, o, g⟩
          obtain ⟨hN, hl1, hl2⟩ := HLA.out.put (by have := hSl.out; omega) HZ.out HX.out o g HZB.out
          have N1 := hid hN
          have N2 := hid (Nat.le_trans HhA.out g.size)
          have N3 := hid (HBA.out.grown g (Nat.le_trans HHh.out.2.2.2 HBA.out.size) (fun q hq => by cases hq; have := HHh.out.2.1; omega))
          clear o g hN hl1 hl2
          go_wp2_with fail
          go_roundw
          case rel => exact ⟨k + 1, S.set j zs, by omega, by go_num, hid (by rw [List.length_set]; exact hSl.out), hid (fun i hi => by rw [getD_set' S j i zs [] (by have := hSl.out; omega)]; split; exact HZ.out; exact HSJ.out i hi), hid (by rw [hD.out, HST.out]; rfl), N1, N2, N3⟩
          case measure => simp [intOf]; omega
        | false =>
          rw [hkept] at hkk HST
          have hkk2 := cell_old (.cells #[.int .i64 j, .slice (some ⟨gy, 0, none⟩) 64 cy] 40) hkk
          clear hRB hck hkk
          go_wp2_with fail
          go_roundw
          case rel => exact ⟨k + 1, S, by omega, by go_num, hSl, HSJ, hid (by rw [hD.out, HST.out]; rfl), HLA, HhA, HBA⟩
          case measure => simp [intOf]; omega
      · have hin' : ¬ (k : Int) < (nK : Int) := by omega
        have hkept : ks.getD k false = false := by rw [List.getD_eq_getElem?_getD, List.getElem?_eq_none (by have := HLK.out; omega)]; rfl
        rw [hkept] at HST
        clear hRB hkept
        go_wp2_with fail
        go_roundw
        case rel => exact ⟨k + 1, S, by omega, by go_num, hSl, HSJ, hid (by rw [hD.out, HST.out]; rfl), HLA, HhA, HBA⟩
        case measure => simp [intOf]; omega
    · have hlt' : ¬ (k : Int) < (nW : Int) := by omega
      have hL' := hL.out
      have c1' : wr.cell? ⟨p, 1, none⟩ = some (.slice a2 nW c2) := by rw [cell_of_row _ _ _ _ _ _ hL'.box]; rfl
      have c2' : wr.cell? ⟨p, 2, none⟩ = some (.int .i64 F) := by rw [cell_of_row _ _ _ _ _ _ hL'.box]; rfl
      have c3' : wr.cell? ⟨p, 3, none⟩ = some (.bool D) := by rw [cell_of_row _ _ _ _ _ _ hL'.box]; rfl
      have f1 : wr.frozen? ⟨p, 1, none⟩ = false := frozen_of_row _ _ _ _ _ hL'.box
      have f2 : wr.frozen? ⟨p, 2, none⟩ = false := frozen_of_row _ _ _ _ _ hL'.box
      have f3 : wr.frozen? ⟨p, 3, none⟩ = false := frozen_of_row _ _ _ _ _ hL'.box
      have HL2 := hid hL'
      clear hL' hL
      go_wp2
      go_end0
      have X1 := heap_setCell_same wr p 1 _ 27 (.slice none 0 0) HL2.out.box
      have X2 := heap_setCell_same _ p 2 _ 27 (.int .i64 (-1)) X1
      have X3 := heap_setCell_same _ p 3 _ 27 (.bool false) X2
      have hE := hD.out
      rw [doneS_end S ws ks false k (by omega)] at hE
      have ag : Agree lo hi wr (((wr.setCell ⟨p, 1, none⟩ (.slice none 0 0)).setCell ⟨p, 2, none⟩ (.int .i64 (-1))).setCell ⟨p, 3, none⟩ (.bool false)) := fun q _ h2 => by
        have := HP.out
        rw [heap_set_ne _ _ _ _ _ (by omega), heap_set_ne _ _ _ _ _ (by omega), heap_set_ne _ _ _ _ _ (by omega)]
      have ow : OwnD wr lo hi (.slice a1 nS c1) (.slice none 0 0) S [] :=
        ⟨⟨xs, [], HL2.out.lx, rfl, by simpa using HL2.out.bands.left HL2.out.lx, by rw [hSl.out]; exact HL2.out.rs, World.ownsRow_nil _ _ _ _⟩, HL2.out.ts, fun q hq => by cases hq⟩
      refine ⟨⟨_, rfl⟩, X3, by rw [hE]; exact (ow.agree ag).mono (Nat.le_refl _) (by simpa using hhi.out), ?_⟩
      exact ((hBl.out.setCell (p := ⟨p, 1, none⟩) HHh.out.2.2.1 _).setCell (p := ⟨p, 2, none⟩) HHh.out.2.2.1 _).setCell (p := ⟨p, 3, none⟩) HHh.out.2.2.1 _
end Go.Proofs.YtnnnehjlegjejaaDoor
