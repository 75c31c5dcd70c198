/- The contract of the program's sync, a method that changes a disk in place. Conditions: a disk that is DiskOk; the two variables hold two different sentinels. -/
import Derived.Test.YtnnnehjlegjejaaDoorTk
import Derived.Test.YtnnnehjlegjejaaDoorIcd
namespace Go.Proofs.YtnnnehjlegjejaaDoor
open Go.RowKit

theorem owns_oth {w w' : World} {p lo s n : Nat} {t e : TypeId} {v : Value} {xs : List Value} {cs : Array Value} {f : Nat × Nat} (o : w.ownsRow lo e s v n xs) (hb : w.heap[p]? = some (.cells cs t f)) (hne : t ≠ e) (oth : ∀ q, q ≠ p → w'.heap[q]? = w.heap[q]?) : w'.ownsRow lo e s v n xs := by
  cases hv : v.ownBlock with
  | none => exact owns_agree o (lo := 0) (hi := 0) (fun q _ h => by omega) (fun g hg => by rw [hv] at hg; cases hg)
  | some g =>
    have hpg := heap_ty hb o hv hne
    exact owns_agree o (lo := g) (hi := g + 1) (fun q h1 h2 => oth q (by omega)) (fun q hq => by rw [hv] at hq; cases hq; omega)

/-- A disk that is being changed in place, its fuse and its mark changed. -/
theorem Live.took {w w' : World} {lo hi p B : Nat} {a1 : Option Addr} {nS c1 : Nat} {a2 : Option Addr} {nW c2 : Nat} {F : Int} {D : Bool} {xs ys : List Value} {ss : List (List Int)} {ws : List (Int × List Int)} (h : Live w lo hi p a1 nS c1 a2 nW c2 F D xs ys ss ws) (hp : hi ≤ p) {s1 : Addr} {r : Dk × Bool} {e : Ending} (t : Took w w' B p (.slice a1 nS c1) (.slice a2 nW c2) s1 r e) : Live w' lo hi p a1 nS c1 a2 nW c2 r.1.F r.1.D xs ys ss ws :=
  ⟨t.box, owns_oth h.rs h.box (by decide) t.oth, owns_oth h.rw h.box (by decide) t.oth, h.bands.agree (fun q _ h2 => t.oth q (by omega)), h.lx, h.ly, h.ts⟩
theorem Live.own {w : World} {lo hi p : Nat} {a1 : Option Addr} {nS c1 : Nat} {a2 : Option Addr} {nW c2 : Nat} {F : Int} {D : Bool} {xs ys : List Value} {ss : List (List Int)} {ws : List (Int × List Int)} (h : Live w lo hi p a1 nS c1 a2 nW c2 F D xs ys ss ws) (hh : hi ≤ w.heap.size) (lS : ss.length = nS) (lW : ws.length = nW) : OwnD w lo w.heap.size (.slice a1 nS c1) (.slice a2 nW c2) ss ws :=
  ⟨⟨xs, ys, h.lx, h.ly, h.bands.mono (Nat.le_refl _) hh, by rw [lS]; exact h.rs, by rw [lW]; exact h.rw⟩, fun g hg => (h.rs.lt g hg).2, fun g hg => (h.rw.lt g hg).2⟩

/-- What a method that changes a disk in place leaves: its answer, the disk's box and the disk's memory. -/
structure Left (w w' : World) (B lo p : Nat) (a1 : Option Addr) (nS c1 : Nat) (s0 s1 : Addr) (r : Dk × Int) (e : Ending) : Prop where
  ex : ∃ v a2 n2 c2, e = .returned v ∧ Code v s0 s1 r.2 ∧ r.1.W.length = n2 ∧ w'.heap[p]? = some (.cells #[.slice a1 nS c1, .slice a2 n2 c2, .int .i64 r.1.F, .bool r.1.D] 27) ∧ OwnD w' lo w'.heap.size (.slice a1 nS c1) (.slice a2 n2 c2) r.1.S r.1.W
  bel : Below B w w'

def syncI (d : Dk) : Dk × Int := if (callD d).2 = true then (⟨doneS d.S d.W [] true, [], (callD d).1.F, (callD d).1.D⟩, 0) else (⟨d.S, d.W, (callD d).1.F, (callD d).1.D⟩, 3)

set_option maxRecDepth 100000 in
set_option maxHeartbeats 6400000 in
theorem impl_sync {lo hi p B : Nat} {a1 : Option Addr} {nS c1 : Nat} {a2 : Option Addr} {nW c2 : Nat} {F : Int} {D : Bool} {xs ys : List Value} {ss : List (List Int)} {ws : List (Int × List Int)} {w : World} (h : Live w lo hi p a1 nS c1 a2 nW c2 F D xs ys ss ws) (hh : hi ≤ w.heap.size)
    {s0 s1 : Addr} {e0 e1 : Array Value} {u0 u1 : TypeId} (hs : Sents w B s0 s1 e0 e1 u0 u1) (hF : F ≤ 9223372036854775807) (hB1 : B ≤ lo) (hB2 : B ≤ p) (hp : hi ≤ p) (hB3 : B ≤ w.heap.size) (lS : ss.length = nS) (lW : ws.length = nW) (h64 : ∀ i, i < nS → (ss.getD i []).length = 64) (hw64 : ∀ i, i < nW → 0 ≤ (ws.getD i w0).1 ∧ (ws.getD i w0).1 < nS ∧ (ws.getD i w0).2.length = 64) (hnW : nW ≤ 600) :
    Calls Tryd.prog 44 #[.pointer (some ⟨p, 0, none⟩)] w fun e w' => Left w w' B lo p a1 nS c1 s0 s1 (syncI ⟨ss, ws, F, D⟩) e := by
  have HT := hid (take_call (ss := ss) (ws := ws) hs hB2 hF h.box)
  have HL0 := hid h
  have H64 := hid h64
  have HW64 := hid hw64
  have HH0 := hid (And.intro hh (And.intro hB1 (And.intro hB2 hB3)))
  have HP := hid hp
  clear h h64 hw64 hh hB1 hB2 hB3 hp hs
  go_enter Tryd.func44, Tryd.ntmps44
  go_wp2_with fail
  refine HT.out.mono ?_
  rintro e wt ht
  have HLv := hid (HL0.out.took HP.out ht)
  have HHh := hid (show hi ≤ wt.heap.size ∧ B ≤ lo ∧ B ≤ p ∧ B ≤ wt.heap.size by have := ht.size; have := HH0.out; omega)
  have HBt := hid ht.bel
  have HR : Hid (((callD ⟨ss, ws, F, D⟩).2 = true ∧ e = .returned .nilIface) ∨ ((callD ⟨ss, ws, F, D⟩).2 = false ∧ e = .returned (.iface 114 (.pointer (some s1))))) := hid ht.ans
  clear ht HT HL0 HH0
  generalize hG : (callD ⟨ss, ws, F, D⟩).1.F = F' at *
  generalize hGD : (callD ⟨ss, ws, F, D⟩).1.D = D' at *
  rcases HR.out with ⟨hok, rfl⟩ | ⟨hok, rfl⟩
  · have HSy := hid (show syncI ⟨ss, ws, F, D⟩ = (⟨doneS ss ws [] true, [], F', D'⟩, 0) by unfold syncI; rw [if_pos hok, hG, hGD])
    have HL := HLv
    have c0 : wt.cell? ⟨p, 1, none⟩ = some (.slice a2 nW c2) := by rw [cell_of_row _ _ _ _ _ _ HL.out.box]; rfl
    clear HR hok HLv hG hGD
    go_wp2
    clear c0
    go_loopw [16] (fun i wr => ∃ (k : Nat) (S : List (List Int)), k ≤ nW ∧ i = .int .i64 k ∧ Hid (S.length = nS) ∧ Hid (∀ i, i < nS → (S.getD i []).length = 64) ∧ Hid (doneS ss ws [] true = doneS S (ws.drop k) [] true) ∧ Hid (Live wr lo hi p a1 nS c1 a2 nW c2 F' D' xs ys S ws) ∧ Hid (hi ≤ wr.heap.size) ∧ Hid (Below B wt wr)) (fun i _ => nW - (intOf i).toNat)
    case atStart => exact ⟨0, ss, Nat.zero_le _, rfl, hid lS, H64, hid rfl, HL, hid HHh.out.1, hid (Below.refl _ _)⟩
    case round =>
      obtain ⟨k, S, hk, rfl, hSl, hS64, hD, hL, hhi, hBl⟩ := hrel
      by_cases hlt : k < nW
      · have hlt' : (k : Int) < (nW : Int) := by omega
        have hk0 : (0 : Int) ≤ (k : Int) := by omega
        have hL' := hL.out
        obtain ⟨gw, rfl⟩ : ∃ gw, a2 = some ⟨gw, 0, none⟩ := by
          rcases hL'.rw.2 with ⟨e, h0⟩ | ⟨gw, _, _, e, _⟩
          · omega
          · exact ⟨gw, (Value.slice.inj e).1⟩
        obtain ⟨hca, hcx⟩ := cellW_at lW (by rw [← lW]; exact hL'.ly) hL'.rw hlt
        have hyo := hL'.bands.own (xs.length + k)
        have hyr := hL'.bands.row (xs.length + k)
        rw [getD_right xs ys k nilS, hL'.lx, getD_right S _ k [], map2_getD] at hyo hyr
        obtain ⟨hA0, hA1, hz64⟩ := HW64.out k hlt
        have HST := hid (doneS_step S ws [] true k (by omega))
        have hzb : ∀ q, 0 ≤ ((ws.getD k w0).2).getD q 0 ∧ ((ws.getD k w0).2).getD q 0 ≤ 255 := by
          have := hL'.bands.bd (S.length + k)
          rw [getD_right S _ k [], map2_getD] at this
          exact this
        generalize ws.getD k w0 = pp at *
        obtain ⟨A, zs⟩ := pp
        simp only at hca hyo hyr hA0 hA1 hz64 HST hzb
        obtain ⟨j, rfl⟩ := Int.eq_ofNat_of_zero_le hA0
        have hj : j < nS := by omega
        obtain ⟨gy, cy, hy⟩ := row64 hyo hz64
        rw [hy] at hyr hcx
        obtain ⟨_, _, e1, hyR, _⟩ := hyr
        rw [hz64] at e1 hyR
        obtain ⟨rfl, _, rfl⟩ := Value.slice.inj e1
        have hxo := hL'.bands.own j
        rw [getD_app, if_pos (by have := hL'.lx; have := hSl.out; omega), getD_app, if_pos (by have := hSl.out; omega)] at hxo
        obtain ⟨gx, cx, hx⟩ := row64 hxo (hS64.out j hj)
        rw [hx, hS64.out j hj] at hxo
        have HXO := hid hxo
        obtain ⟨gr, rfl⟩ : ∃ gr, a1 = some ⟨gr, 0, none⟩ := by
          rcases hL'.rs.2 with ⟨e, h0⟩ | ⟨gr, _, _, e, _⟩
          · omega
          · exact ⟨gr, (Value.slice.inj e).1⟩
        have hcj := cell_getD hL'.rs hj
        rw [hx] at hcj
        have hcp : wr.cell? ⟨p, 0, none⟩ = some (.slice (some ⟨gr, 0, none⟩) nS c1) := by rw [cell_of_row _ _ _ _ _ _ hL'.box]; rfl
        have hpg := heap_ty hL'.box hxo rfl (by decide)
        have hrg : gr ≠ gx := fun e => (owns_ne hL'.rs hxo (by decide)).elim (fun e1 => by cases e1) (fun e1 => e1 (by rw [e]; rfl))
        have bA := Below.alloc1 wr (.cells #[.int .i64 j, .slice (some ⟨gy, 0, none⟩) 64 cy] 40)
        have hsm := hid (impl_makeSafe (w := wr.alloc (.cells #[.int .i64 j, .slice (some ⟨gy, 0, none⟩) 64 cy] 40)) (cx := cy) (cell_old _ hcp) (cell_old _ hcj) hj hpg hrg (hxo.alloc _) (hyR.below bA (Nat.le_refl _)))
        have HLA := hid (hL'.below bA hhi.out)
        have HBA := hid (hBl.out.trans (bA.mono (Nat.le_trans HHh.out.2.2.2 hBl.out.size)))
        have HhA := hid (Nat.le_trans hhi.out bA.size)
        have HZ := hid hz64
        have HX := hid hx
        have HZB := hid hzb
        have HSJ := hid hS64.out
        clear hxo hyo hyR e1 hcj hcp hpg hrg hL' hL hhi hzb hz64 hx hA0 hA1 hy
        rw [Bool.true_or] at HST
        have HC := hid hca
        go_wp2_with fail
        refine hsm.out.mono ?_
        rintro e u ⟨⟨v, rfl⟩, o, g⟩
        obtain ⟨hN, hl1, hl2⟩ := HLA.out.put (by have := hSl.out; omega) HZ.out HX.out o g HZB.out
        have N1 := hid hN
        have N2 := hid (Nat.le_trans HhA.out g.size)
        have N3 := hid (HBA.out.grown g (Nat.le_trans HHh.out.2.2.2 HBA.out.size) (fun q hq => by cases hq; have := HHh.out.2.1; omega))
        clear o g hN hl1 hl2
        go_wp2_with fail
        go_roundw
        case rel => exact ⟨k + 1, S.set j zs, by omega, by go_num, hid (by rw [List.length_set]; exact hSl.out), hid (fun i hi => by rw [getD_set' S j i zs [] (by have := hSl.out; omega)]; split; exact HZ.out; exact HSJ.out i hi), hid (by have e9 := HST.out; rw [List.drop_nil, List.drop_nil] at e9; rw [hD.out, e9]; rfl), N1, N2, N3⟩
        case measure => simp [intOf]; omega
      · have hlt' : ¬ (k : Int) < (nW : Int) := by omega
        have hL' := hL.out
        have c1' : wr.cell? ⟨p, 1, none⟩ = some (.slice a2 nW c2) := by rw [cell_of_row _ _ _ _ _ _ hL'.box]; rfl
        have f1 : wr.frozen? ⟨p, 1, none⟩ = false := frozen_of_row _ _ _ _ _ hL'.box
        have HL2 := hid hL'
        clear hL' hL
        go_wp2
        go_ret
        have X1 := heap_setCell_same wr p 1 _ 27 (.slice none 0 0) HL2.out.box
        have hE := hD.out
        have e9 := doneS_end S ws [] true k (by omega)
        rw [List.drop_nil] at e9
        rw [e9] at hE
        have ag : Agree lo hi wr (wr.setCell ⟨p, 1, none⟩ (.slice none 0 0)) := fun q _ h2 => by
          have := HP.out
          rw [heap_set_ne _ _ _ _ _ (by omega)]
        have ow : OwnD wr lo hi (.slice a1 nS c1) (.slice none 0 0) S [] :=
          ⟨⟨xs, [], HL2.out.lx, rfl, by simpa using HL2.out.bands.left HL2.out.lx, by rw [hSl.out]; exact HL2.out.rs, World.ownsRow_nil _ _ _ _⟩, HL2.out.ts, fun q hq => by cases hq⟩
        rw [HSy.out]
        refine ⟨⟨_, none, 0, 0, rfl, Code.well _ _, rfl, X1, by rw [hE]; exact (ow.agree ag).mono (Nat.le_refl _) (by simpa using hhi.out)⟩, ?_⟩
        exact (HBt.out.trans hBl.out).setCell (p := ⟨p, 1, none⟩) HHh.out.2.2.1 _
  · have HSy := hid (show syncI ⟨ss, ws, F, D⟩ = (⟨ss, ws, F', D'⟩, 3) by unfold syncI; rw [if_neg (by rw [hok]; simp), hG, hGD])
    clear HR hok hG hGD
    go_wp2
    go_ret
    rw [HSy.out]
    exact ⟨⟨_, a2, nW, c2, rfl, Code.down _ _, lW, HLv.out.box, HLv.out.own HHh.out.1 lS lW⟩, HBt.out⟩
end Go.Proofs.YtnnnehjlegjejaaDoor
