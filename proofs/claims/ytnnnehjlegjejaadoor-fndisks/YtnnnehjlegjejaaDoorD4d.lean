/- The contract of the draw of a disk. For codes of at most 2^21 bytes. -/
import Derived.Test.YtnnnehjlegjejaaDoorD4g
import Derived.Test.YtnnnehjlegjejaaDoorDn2
import Derived.Test.YtnnnehjlegjejaaDoorRk
import Derived.Deep.AppendLies
namespace Go.Proofs.YtnnnehjlegjejaaDoor
open Go.RowKit

/-- What the draw of a disk answers. -/
structure AnsG (w : World) (g : Nat) (ad : Option Addr) (n cap : Nat) (zs : List Int) (e : Ending) (w' : World) : Prop where
  ex : ∃ aS nS cS aW nW cW F D S W, e = .returned (.agg #[.slice aS nS cS, .slice aW nW cW, .int .i64 F, .bool D]) ∧ S.length = nS ∧ W.length = nW ∧ F ≤ 1000000 ∧ nS ≤ 1000 ∧ (∃ B xs ys, Rws B w' (.slice aS nS cS) (.slice aW nW cW) S W xs ys) ∧ Cur w' g ad n cap zs ∧ w.grownBy w' (some g)
theorem Gd.cell {w : World} {g p : Nat} {ad : Option Addr} {n cap : Nat} {zs : List Int} {wr : World} {vS vW : Value} {S : List (List Int)} {W : List (Int × List Int)} {F : Int} {D : Bool} (h : Gd w g p ad n cap zs wr vS vW S W F D) : wr.cell? ⟨p, 0, none⟩ = some vS ∧ wr.cell? ⟨p, 1, none⟩ = some vW ∧ wr.cell? ⟨p, 2, none⟩ = some (.int .i64 F) ∧ wr.cell? ⟨p, 3, none⟩ = some (.bool D) := by
  have t := h.box
  exact ⟨by rw [cell_of_row _ _ _ _ _ _ t]; rfl, by rw [cell_of_row _ _ _ _ _ _ t]; rfl, by rw [cell_of_row _ _ _ _ _ _ t]; rfl, by rw [cell_of_row _ _ _ _ _ _ t]; rfl⟩
theorem Gd.froz {w : World} {g p : Nat} {ad : Option Addr} {n cap : Nat} {zs : List Int} {wr : World} {vS vW : Value} {S : List (List Int)} {W : List (Int × List Int)} {F : Int} {D : Bool} (h : Gd w g p ad n cap zs wr vS vW S W F D) (i : Nat) : wr.frozen? ⟨p, i, none⟩ = false := frozen_of_row _ _ _ _ _ h.box
theorem wrapI (n : Int) (h0 : 0 ≤ n) (h1 : n < 9223372036854775808) : IntKind.i64.wrap n = n := by
  rw [IntKind.wrap_i64]; omega
theorem fin_ans {w U wr : World} {g p q0 : Nat} {ad : Option Addr} {n cap : Nat} {zs : List Int} {aS aW : Option Addr} {nS cS nW cW : Nat} {S : List (List Int)} {W : List (Int × List Int)} {F : Int} {D : Bool} {zc : Array Value} (G0 : w.grownBy U none) (hq : w.heap.size = q0) (hz : U.heap.size = q0 + 1) (T0 : U.heap[q0]? = some (.cells zc 27)) (hgl : g < q0)
    (h : Gd U g p ad n cap zs wr (.slice aS nS cS) (.slice aW nW cW) S W F D) (hS : S.length = nS) (hW : W.length = nW) (hF : F ≤ 1000000) (hn : nS ≤ 1000) :
    wr.heap[q0]? = some (.cells zc 27) ∧ AnsG w g ad n cap zs (.returned (.agg #[.slice aS nS cS, .slice aW nW cW, .int .i64 F, .bool D])) (wr.setRow q0 #[.slice aS nS cS, .slice aW nW cW, .int .i64 F, .bool D]) := by
  have T1 : wr.heap[q0]? = some (.cells zc 27) := (h.gr.block q0 (by omega) (by simp; omega)).trans T0
  refine ⟨T1, ?_⟩
  obtain ⟨⟨xs, ys, rd⟩, cr⟩ := h.final T1 hgl #[.slice aS nS cS, .slice aW nW cW, .int .i64 F, .bool D]
  have hU : w.grownBy U (some g) := ⟨G0.os, G0.tape, G0.output, G0.size, fun k hk _ => G0.block k hk (by simp)⟩
  have hg : wr.grownBy (wr.setRow q0 #[.slice aS nS cS, .slice aW nW cW, .int .i64 F, .bool D]) (some q0) := ⟨rfl, rfl, rfl, by simp, fun q _ hq => setRow_other _ _ _ _ (fun e => hq (by rw [e]))⟩
  exact ⟨aS, nS, cS, aW, nW, cW, F, D, S, W, rfl, hS, hW, hF, hn, ⟨_, xs, ys, rd⟩, cr, grown_new (grown_trans hU h.gr) hg (fun r hr => by cases hr; omega)⟩

set_option maxRecDepth 100000 in
set_option maxHeartbeats 12800000 in
theorem l4disk {w : World} {g : Nat} {ad : Option Addr} {n cap : Nat} {zs : List Int} (c : Cur w g ad n cap zs) (hn : n ≤ 2097152) :
    Calls Tryd.prog 30 #[.pointer (some ⟨g, 0, none⟩)] w fun e w' => AnsG w g ad n cap zs e w' := by
  have hgl := c.lt
  go_enter Tryd.func30, Tryd.ntmps30
  go_wp2_with fail
  have c0 := c.alloc (.cells #[.slice none 0 0, .slice none 0 0, .int .i64 0, .bool false] 27)
  have G0 := hid (show w.grownBy (w.alloc (.cells #[.slice none 0 0, .slice none 0 0, .int .i64 0, .bool false] 27)) none from World.grownBy_alloc w _ none)
  have T0 := hid (heap_alloc_new w (.cells #[.slice none 0 0, .slice none 0 0, .int .i64 0, .bool false] 27))
  have Z0 := hid (alloc_size w (.cells #[.slice none 0 0, .slice none 0 0, .int .i64 0, .bool false] 27))
  have Q0 := hid (Eq.refl w.heap.size)
  generalize w.alloc (.cells #[.slice none 0 0, .slice none 0 0, .int .i64 0, .bool false] 27) = U at *
  generalize hq0 : w.heap.size = q0 at *
  have HQ := hid hq0
  have hgu : g < U.heap.size := by have := Z0.out; omega
  clear c hq0 Q0
  refine (l1Below c0 hn 5 (by omega) (by omega)).mono ?_
  rintro e w1 ⟨x, rfl, hx0, hx1, c1, g1⟩
  obtain ⟨x, rfl⟩ := Int.eq_ofNat_of_zero_le hx0
  go_wp2_with fail
  refine (spec_DiskNew (1 + (x : Int)) w1 (by omega) (by omega)).mono ?_
  rintro e w2 ⟨aS, cS, rfl, o2, b2⟩
  rw [show (1 + (x : Int)).toNat = x + 1 by omega] at *
  have hg2 : w1.grownBy w2 none := ⟨b2.os, b2.tape, b2.output, b2.size, fun k hk _ => b2.block k hk⟩
  have D0 := hid (Gd.start (F := -1) (D := false) hgu (grown_new g1 hg2 (fun r hr => by cases hr)) (c1.below b2 (Nat.le_refl _)) g1.size o2)
  clear o2 b2 c0 c1 g1 hg2
  go_wp2_with fail
  generalize w2.alloc (.cells #[.slice aS (x + 1) cS, .slice none 0 0, .int .i64 (-1), .bool false] 27) = V at *
  generalize w2.heap.size = p at *
  obtain ⟨b, c', hb⟩ := D0.out.form (by simp)
  obtain ⟨rfl, -, rfl⟩ := Value.slice.inj hb
  clear hb
  have hm5 : x + 1 ≤ 5 := by omega
  have hm0 : 0 < x + 1 := by omega
  generalize x + 1 = m at *
  go_loopw [4] (fun i wr => ∃ (k : Nat) (S : List (List Int)), k ≤ m ∧ i = .int .i64 k ∧ S.length = m ∧ Hid (∀ i, i < S.length → (S.getD i []).length = 64) ∧ Hid (Gd U g p ad n cap zs wr (.slice (some ⟨b, 0, none⟩) (m) cS) (.slice none 0 0) S [] (-1) false)) (fun i _ => m - (intOf i).toNat)
  case atStart => exact ⟨0, _, Nat.zero_le _, rfl, by simp, hid (fun i hi => by simp only [List.length_replicate] at hi; rw [List.getD_eq_getElem?_getD, List.getElem?_replicate, if_pos hi]; simp [zeros]), D0⟩
  case round =>
    obtain ⟨k, S, hk, rfl, hS, h64, hG⟩ := hrel
    clear D0
    obtain ⟨y0, y1, y2, y3⟩ := hG.out.cell
    by_cases hlt : k < m
    · have hlt' : (k : Int) < (m : Int) := by omega
      go_wp2_with fail
      clear y0 y1 y2 y3
      have H4 := hid hG.out.drew.cell.1
      refine region_K 6 (fun X => X.cell? ⟨p, 0, none⟩ = some (.slice (some ⟨b, 0, none⟩) (m) cS)) (by kernel_rfl) ?_ (fun hHeld => ?_)
      · exact H4.out
      refine anyK_take (i := 0) (v := ?v3001) rfl (by kernel_rfl) (by kernel_rfl) (by kernel_rfl) (by kernel_rfl) (fun _ _ _ h => h) (by rfl) hHeld ?hy3001 (some 17) (by rfl) ?rest3001
      case hy3001 => (intro W hSw; (try dsimp only at hSw); go_simp; (try with_reducible rfl))
      try simp only [Act.put]
      try simp only [List.setIfInBounds_toArray]
      try simp only [List.set_cons_succ, List.set_cons_zero]
      refine anyK_take (i := 1) (v := ?v3002) rfl (by kernel_rfl) (by kernel_rfl) (by kernel_rfl) (by kernel_rfl) (fun _ _ _ h => h) (by rfl) hHeld ?hy3002 (some 18) (by rfl) ?rest3002
      case hy3002 => (intro W hSw; (try dsimp only at hSw); go_simp; (try with_reducible rfl))
      try simp only [Act.put]
      try simp only [List.setIfInBounds_toArray]
      try simp only [List.set_cons_succ, List.set_cons_zero]
      refine anyK_take (i := 2) (v := ?v3003) rfl (by kernel_rfl) (by kernel_rfl) (by kernel_rfl) (by kernel_rfl) (fun _ _ _ h => h) (by rfl) hHeld ?hy3003 (some 19) (by rfl) ?rest3003
      case hy3003 => (intro W hSw; (try dsimp only at hSw); go_simp; (try with_reducible rfl))
      try simp only [Act.put]
      try simp only [List.setIfInBounds_toArray]
      try simp only [List.set_cons_succ, List.set_cons_zero]
      refine anyK_take (i := 3) (v := ?v3004) rfl (by kernel_rfl) (by kernel_rfl) (by kernel_rfl) (by kernel_rfl) (fun _ _ _ h => h) (by rfl) hHeld ?hy3004 (some 20) (by rfl) ?rest3004
      case hy3004 => (intro W hSw; (try dsimp only at hSw); go_simp; (try with_reducible rfl))
      try simp only [Act.put]
      try simp only [List.setIfInBounds_toArray]
      try simp only [List.set_cons_succ, List.set_cons_zero]
      refine anyK_step (i := 4) (by kernel_rfl) rfl (fun K hK => ?_)
      go_simp
      refine (l4sector hG.out.drew.cur hn).mono ?_
      rintro e w4 ⟨v, L, rfl, hL, o4, bd4, c4, g4⟩
      have G4 := hid (hG.out.drew.cursor c4 g4)
      have R4 := hid (Ry.own o4 bd4)
      have LL := hid hL
      obtain ⟨av, cv, rfl, -⟩ := R4.out.row
      clear o4 bd4 c4 g4 hL
      go_wp2_with fail
      refine hK.out _ _ ?_ (fun hH2 => ?_)
      · exact G4.out.cell.1
      clear hK K hHeld
      have hHeld := hH2
      clear hH2
      try simp only [Act.put]
      try simp only [List.setIfInBounds_toArray]
      try simp only [List.set_cons_succ, List.set_cons_zero]
      have hkS : k < S.length := by omega
      obtain ⟨v0, d0, _⟩ := G4.out.cellS hkS
      obtain ⟨f0, G5⟩ := G4.out.storeS hkS R4.out
      have HG5 := hid G5
      have hk0 : (0 : Int) ≤ (k : Int) := by omega
      clear G5
      refine anyK_step (i := 5) (by kernel_rfl) rfl (fun K hK => ?_)
      go_simp
      refine hK.out _ _ ?_ (fun hH2 => ?_)
      · exact G4.out.cell.1
      clear hK K hHeld
      have hHeld := hH2
      clear hH2
      try simp only [Act.put]
      try simp only [List.setIfInBounds_toArray]
      try simp only [List.set_cons_succ, List.set_cons_zero]
      refine anyK_last (by kernel_rfl) rfl (fun K hK => ?_)
      go_simp
      refine hK.out _ _ ?_
      clear hK K hHeld
      refine anyK_done (by kernel_rfl) ?_ _
      clear d0 f0
      go_wp2_with fail
      go_roundw
      case rel => exact ⟨k + 1, S.set k L, by omega, by go_num, by simpa using hS, hid (fun i hi => by rw [List.length_set] at hi; rw [getD_set' S k i L [] hkS]; split; exact LL.out; exact h64.out i hi), HG5⟩
      case measure => simp [intOf]; omega
    · have hlt' : ¬ (k : Int) < (m : Int) := by omega
      go_wp2_with fail
      clear y0 y1 y2 y3
      refine (l1Below hG.out.cur hn 5 (by omega) (by omega)).mono ?_
      rintro e w3 ⟨j, rfl, hj0, hj1, c3, g3⟩
      obtain ⟨j, rfl⟩ := Int.eq_ofNat_of_zero_le hj0
      have D3 := hid (hG.out.cursor c3 g3)
      have hSm : 0 < S.length := by omega
      clear hG c3 g3 hlt hlt' hk
      go_wp2_with fail
      go_loopw [5] (fun i wr => ∃ (k : Nat) (W : List (Int × List Int)) (vW : Value), k ≤ j ∧ i = .int .i64 k ∧ W.length + k = j ∧ Hid (Gd U g p ad n cap zs wr (.slice (some ⟨b, 0, none⟩) m cS) vW S W (-1) false)) (fun i _ => (intOf i).toNat)
      case atStart => exact ⟨j, [], _, Nat.le_refl _, rfl, by simp, D3⟩
      case round =>
        obtain ⟨k2, W, vW, hk2, rfl, hW, hG⟩ := hrel
        clear D3
        obtain ⟨-, -, aW, cW, -, rfl⟩ := hG.out.forms
        obtain ⟨y0, y1, y2, y3⟩ := hG.out.cell
        by_cases hlt : 0 < k2
        · have hlt' : (0 : Int) < (k2 : Int) := by omega
          go_wp2_with fail
          clear y0 y1 y2 y3
          have H4 := hid (And.intro hG.out.drew.cell.1 hG.out.drew.cell.2.1)
          obtain ⟨j0, ji, jz0, jz1, jz2⟩ := info_parts Tryd.infoWr
          refine region_K 13 (fun X => X.cell? ⟨p, 0, none⟩ = some (.slice (some ⟨b, 0, none⟩) m cS) ∧ X.cell? ⟨p, 1, none⟩ = some (.slice aW W.length cW)) (by kernel_rfl) ?_ (fun hHeld => ?_)
          · exact H4.out
          refine anyK_take (i := 0) (v := ?v3006) rfl (by kernel_rfl) (by kernel_rfl) (by kernel_rfl) (by kernel_rfl) (fun _ _ _ h => h) (by rfl) hHeld ?hy3006 (some 29) (by rfl) ?rest3006
          case hy3006 => (intro W' hSw; (try dsimp only at hSw); go_simp; (try with_reducible rfl))
          try simp only [Act.put]
          try simp only [List.setIfInBounds_toArray]
          try simp only [List.set_cons_succ, List.set_cons_zero]
          refine anyK_take (i := 1) (v := ?v3007) rfl (by kernel_rfl) (by kernel_rfl) (by kernel_rfl) (by kernel_rfl) (fun _ _ _ h => h) (by rfl) hHeld ?hy3007 (some 30) (by rfl) ?rest3007
          case hy3007 => (intro W' hSw; (try dsimp only at hSw); go_simp; (try with_reducible rfl))
          try simp only [Act.put]
          try simp only [List.setIfInBounds_toArray]
          try simp only [List.set_cons_succ, List.set_cons_zero]
          refine anyK_take (i := 2) (v := ?v3008) rfl (by kernel_rfl) (by kernel_rfl) (by kernel_rfl) (by kernel_rfl) (fun _ _ _ h => h) (by rfl) hHeld ?hy3008 (some 31) (by rfl) ?rest3008
          case hy3008 => (intro W' hSw; (try dsimp only at hSw); go_simp; (try with_reducible rfl))
          try simp only [Act.put]
          try simp only [List.setIfInBounds_toArray]
          try simp only [List.set_cons_succ, List.set_cons_zero]
          refine anyK_take (i := 3) (v := ?v3009) rfl (by kernel_rfl) (by kernel_rfl) (by kernel_rfl) (by kernel_rfl) (fun _ _ _ h => h) (by rfl) hHeld ?hy3009 (some 32) (by rfl) ?rest3009
          case hy3009 => (intro W' hSw; (try dsimp only at hSw); go_simp; (try with_reducible rfl))
          try simp only [Act.put]
          try simp only [List.setIfInBounds_toArray]
          try simp only [List.set_cons_succ, List.set_cons_zero]
          refine anyK_take (i := 4) (v := ?v3010) rfl (by kernel_rfl) (by kernel_rfl) (by kernel_rfl) (by kernel_rfl) (fun _ _ _ h => h) (by rfl) hHeld ?hy3010 (some 33) (by rfl) ?rest3010
          case hy3010 => (intro W' hSw; (try dsimp only at hSw); go_simp; (try with_reducible rfl))
          try simp only [Act.put]
          try simp only [List.setIfInBounds_toArray]
          try simp only [List.set_cons_succ, List.set_cons_zero]
          refine anyK_take (i := 5) (v := ?v3011) rfl (by kernel_rfl) (by kernel_rfl) (by kernel_rfl) (by kernel_rfl) (fun _ _ _ h => h) (by rfl) hHeld ?hy3011 (some 34) (by rfl) ?rest3011
          case hy3011 => (intro W' hSw; (try dsimp only at hSw); go_simp; (try with_reducible rfl))
          try simp only [Act.put]
          try simp only [List.setIfInBounds_toArray]
          try simp only [List.set_cons_succ, List.set_cons_zero]
          refine anyK_take (i := 7) (v := ?v3012) rfl (by kernel_rfl) (by kernel_rfl) (by kernel_rfl) (by kernel_rfl) (fun _ _ _ h => h) (by rfl) hHeld ?hy3012 (some 36) (by rfl) ?rest3012
          case hy3012 => (intro W' hSw; (try dsimp only at hSw); go_simp; (try with_reducible rfl))
          try simp only [Act.put]
          try simp only [List.setIfInBounds_toArray]
          try simp only [List.set_cons_succ, List.set_cons_zero]
          refine anyK_step (i := 6) (by kernel_rfl) rfl (fun K hK => ?_)
          go_simp
          refine (l1Below hG.out.drew.cur hn (m : Int) (by omega) (by omega)).mono ?_
          rintro e w4 ⟨y, rfl, hy0, hy1, c4, g4⟩
          have G4 := hid (hG.out.drew.cursor c4 g4)
          clear c4 g4
          go_wp2_with fail
          refine hK.out _ _ ?_ (fun hH2 => ?_)
          · exact ⟨G4.out.cell.1, G4.out.cell.2.1⟩
          clear hK K hHeld
          have hHeld := hH2
          clear hH2
          try simp only [Act.put]
          try simp only [List.setIfInBounds_toArray]
          try simp only [List.set_cons_succ, List.set_cons_zero]
          refine anyK_step (i := 8) (by kernel_rfl) rfl (fun K hK => ?_)
          go_simp
          refine (l4sector G4.out.cur hn).mono ?_
          rintro e w5 ⟨v, L, rfl, hL, o5, bd5, c5, g5⟩
          have G5 := hid (G4.out.cursor c5 g5)
          have R5 := hid (Ry.own o5 bd5)
          have LL := hid hL
          obtain ⟨av, cv, rfl, -⟩ := R5.out.row
          clear o5 bd5 c5 g5 hL
          go_wp2_with fail
          refine hK.out _ _ ?_ (fun hH2 => ?_)
          · exact ⟨G5.out.cell.1, G5.out.cell.2.1⟩
          clear hK K hHeld
          have hHeld := hH2
          clear hH2
          try simp only [Act.put]
          try simp only [List.setIfInBounds_toArray]
          try simp only [List.set_cons_succ, List.set_cons_zero]
          refine anyK_take (i := 9) (v := ?v3013) rfl (by kernel_rfl) (by kernel_rfl) (by kernel_rfl) (by kernel_rfl) (fun _ _ _ h => h) (by rfl) hHeld ?hy3013 (some 38) (by rfl) ?rest3013
          case hy3013 => (intro W' hSw; (try dsimp only at hSw); go_simp; (try with_reducible rfl))
          try simp only [Act.put]
          try simp only [List.setIfInBounds_toArray]
          try simp only [List.set_cons_succ, List.set_cons_zero]
          refine anyK_step (i := 10) (by kernel_rfl) rfl (fun K hK => ?_)
          go_simp
          refine hK.out _ _ ?_ (fun hH2 => ?_)
          · exact ⟨(G5.out.alloc _).cell.1, (G5.out.alloc _).cell.2.1⟩
          clear hK K hHeld
          have hHeld := hH2
          clear hH2
          try simp only [Act.put]
          try simp only [List.setIfInBounds_toArray]
          try simp only [List.set_cons_succ, List.set_cons_zero]
          have GA := hid (G5.out.alloc (.cells #[.int .i64 y, .slice av L.length cv] 40))
          obtain ⟨xs, ys, r⟩ := GA.out.rows
          have HRw := hid r
          have RA := hid (R5.out.grown (World.grownBy_alloc w5 (.cells #[.int .i64 y, .slice av L.length cv] 40) none) (fun k hk => by cases hk))
          clear r
          refine anyK_step (i := 11) (by kernel_rfl) rfl (fun K hK => ?_)
          refine step_append_lies _ (by rfl) _ _ _ (by rfl) U.heap.size 40 j0 (.agg #[.int .i64 0, .slice none 0 0]) 2 32 Tryd.underlying25 ji jz0 jz1 jz2 rfl (by omega) (.slice aW W.length cW) W.length (cellsW W ys) (by rfl) HRw.out.oW ⟨(w5).heap.size, 0, none⟩ 1 1 [.int .i64 y, .slice av L.length cv] (by rfl) rfl (World.news_of_block (heap_alloc_new w5 _)) (by simp [Value.oneCell']) (by omega) (by unfold maxLen; omega) (by omega) GA.out.size _ rfl ?_
          intro gg cc w6 ow6 gr6 _ _
          have HG6 := hid (GA.out.appW HRw.out RA.out ow6 gr6)
          have T6 := GA.out.midW HRw.out gr6
          have z0 : w6.cell? ⟨p, 0, none⟩ = some (.slice (some ⟨b, 0, none⟩) m cS) := by rw [cell_of_row _ _ _ _ _ _ T6]; rfl
          have z1 : w6.cell? ⟨p, 1, none⟩ = some (.slice aW W.length cW) := by rw [cell_of_row _ _ _ _ _ _ T6]; rfl
          have z2 : w6.frozen? ⟨p, 1, none⟩ = false := frozen_of_row _ _ _ _ _ T6
          clear ow6 gr6 T6
          refine hK.out _ _ ?_ (fun hH2 => ?_)
          · exact ⟨z0, z1⟩
          clear hK K hHeld
          have hHeld := hH2
          clear hH2
          try simp only [Act.put]
          try simp only [List.setIfInBounds_toArray]
          try simp only [List.set_cons_succ, List.set_cons_zero]
          refine anyK_step (i := 12) (by kernel_rfl) rfl (fun K hK => ?_)
          go_simp
          refine hK.out _ _ ?_ (fun hH2 => ?_)
          · exact ⟨z0, z1⟩
          clear hK K hHeld
          have hHeld := hH2
          clear hH2
          try simp only [Act.put]
          try simp only [List.setIfInBounds_toArray]
          try simp only [List.set_cons_succ, List.set_cons_zero]
          refine anyK_last (by kernel_rfl) rfl (fun K hK => ?_)
          go_simp
          refine hK.out _ _ ?_
          clear hK K hHeld
          refine anyK_done (by kernel_rfl) ?_ _
          clear z0 z1 z2 ji jz0 jz1 jz2
          go_wp2_with fail
          go_roundw
          case rel => exact ⟨k2 - 1, W ++ [(y, L)], _, by omega, by go_num, by simp; omega, HG6⟩
          case measure => simp [intOf]; omega
        · have hlt' : ¬ (0 : Int) < (k2 : Int) := by omega
          have hW4 : W.length ≤ 4 := by omega
          go_wp2_with fail
          clear y0 y1 y2 y3 hlt hlt' hk2 hW
          refine (l1Once hG.out.cur hn 3 (by omega) (by omega)).mono ?_
          rintro e w7 ⟨q1, rfl, c7, g7⟩
          have G7 := hid (hG.out.cursor c7 g7)
          clear hG c7 g7
          cases q1
          · go_wp2_with fail
            refine (l1Once G7.out.cur hn 8 (by omega) (by omega)).mono ?_
            rintro e w9 ⟨q2, rfl, c9, g9⟩
            have G9 := hid (G7.out.cursor c9 g9)
            clear c9 g9 G7
            obtain ⟨y0, y1, y2, y3⟩ := G9.out.cell
            have f3 := G9.out.froz 3
            have G10 := hid (G9.out.setD q2)
            clear G9
            go_wp2_with fail
            clear y0 y1 y2 y3 f3
            generalize w9.setCell ⟨p, 3, none⟩ (.bool q2) = w10 at *
            refine (l1Below G10.out.cur hn 30 (by omega) (by omega)).mono ?_
            rintro e w11 ⟨t, rfl, ht0, ht1, c11, g11⟩
            have G11 := hid (G10.out.cursor c11 g11)
            clear c11 g11 G10
            obtain ⟨y0, y1, y2, y3⟩ := G11.out.cell
            by_cases t0 : t = 0
            · subst t0
              have f0 := G11.out.froz 0
              have G12 := hid G11.out.noS
              have FA := fin_ans G0.out HQ.out Z0.out T0.out hgl G12.out rfl rfl (by omega) (by omega)
              have TQ := hid FA.1
              have AN := hid FA.2
              have TP := hid G12.out.box
              clear FA y1 y2 y3
              go_wp2_with (first
                | (refine wpList_load_row rfl 27 (.tmp 3) rfl p rfl 27 _ (0, 0) _ TP.out Tryd.underlying27 rfl sizeDk ?_)
                | (refine wpList_store_row rfl 27 (.tmp 2) (.tmp 127) rfl q0 #[.slice none 0 0, .slice aW W.length cW, .int .i64 (-1), .bool q2] rfl rfl 27 _ TQ.out ?s1x1 ?s2x1 ?s3x1 ?_))
              case s1x1 => simpa using sizeDk
              try case s2x1 => rfl
              case s3x1 => simp [Value.oneCell']
              refine bodyPost_ret (results_cell_row Tryd.results30 _ _ q0 27 #[.slice none 0 0, .slice aW W.length cW, .int .i64 (-1), .bool q2] (0, 0) _ rfl (setRow_heap _ _ _ _ _ _ TQ.out) Tryd.underlying27 rfl sizeDk) rfl ?_
              exact AN.out
            by_cases t1 : t = 1
            · subst t1
              clear y1 y2 y3 y0
              have h6 := h64.out 0 hSm
              obtain ⟨v0, d0, r0⟩ := G11.out.drew.cellS (i := 0) hSm
              obtain ⟨av, cv, rfl, -⟩ := r0.row
              obtain ⟨bb, oo, rfl, -, r1⟩ := r0.tail (by omega)
              have hcv := r0.cp _ _ _ rfl
              rw [h6] at d0 r1 hcv
              obtain ⟨f0, G12⟩ := G11.out.drew.storeS hSm r1
              have HG12 := hid G12
              have y0 := G11.out.drew.cell.1
              have H4 := hid (And.intro y0 d0)
              have hcv1 : ¬ cv = 1 := by omega
              have hcv2 : (1 : Int) ≤ (cv : Int) := by omega
              clear G12 r0 r1 h6 y0
              go_wp2_with fail
              refine region_K 8 (fun X => X.cell? ⟨p, 0, none⟩ = some (.slice (some ⟨b, 0, none⟩) m cS) ∧ X.cell? ⟨b, 0, none⟩ = some (.slice (some ⟨bb, oo, none⟩) 64 cv)) (by kernel_rfl) ?_ (fun hHeld => ?_)
              · exact H4.out
              refine anyK_take (i := 0) (v := ?v3014) rfl (by kernel_rfl) (by kernel_rfl) (by kernel_rfl) (by kernel_rfl) (fun _ _ _ h => h) (by rfl) hHeld ?hy3014 (some 57) (by rfl) ?rest3014
              case hy3014 => (intro W' hSw; (try dsimp only at hSw); go_simp; (try with_reducible rfl))
              try simp only [Act.put]
              try simp only [List.setIfInBounds_toArray]
              try simp only [List.set_cons_succ, List.set_cons_zero]
              refine anyK_take (i := 1) (v := ?v3015) rfl (by kernel_rfl) (by kernel_rfl) (by kernel_rfl) (by kernel_rfl) (fun _ _ _ h => h) (by rfl) hHeld ?hy3015 (some 58) (by rfl) ?rest3015
              case hy3015 => (intro W' hSw; (try dsimp only at hSw); go_simp; (try with_reducible rfl))
              try simp only [Act.put]
              try simp only [List.setIfInBounds_toArray]
              try simp only [List.set_cons_succ, List.set_cons_zero]
              refine anyK_take (i := 2) (v := ?v3016) rfl (by kernel_rfl) (by kernel_rfl) (by kernel_rfl) (by kernel_rfl) (fun _ _ _ h => h) (by rfl) hHeld ?hy3016 (some 59) (by rfl) ?rest3016
              case hy3016 => (intro W' hSw; (try dsimp only at hSw); go_simp; (try with_reducible rfl))
              try simp only [Act.put]
              try simp only [List.setIfInBounds_toArray]
              try simp only [List.set_cons_succ, List.set_cons_zero]
              refine anyK_take (i := 3) (v := ?v3017) rfl (by kernel_rfl) (by kernel_rfl) (by kernel_rfl) (by kernel_rfl) (fun _ _ _ h => h) (by rfl) hHeld ?hy3017 (some 60) (by rfl) ?rest3017
              case hy3017 => (intro W' hSw; (try dsimp only at hSw); go_simp; (try with_reducible rfl))
              try simp only [Act.put]
              try simp only [List.setIfInBounds_toArray]
              try simp only [List.set_cons_succ, List.set_cons_zero]
              refine anyK_take (i := 4) (v := ?v3018) rfl (by kernel_rfl) (by kernel_rfl) (by kernel_rfl) (by kernel_rfl) (fun _ _ _ h => h) (by rfl) hHeld ?hy3018 (some 61) (by rfl) ?rest3018
              case hy3018 => (intro W' hSw; (try dsimp only at hSw); go_simp; (try with_reducible rfl))
              try simp only [Act.put]
              try simp only [List.setIfInBounds_toArray]
              try simp only [List.set_cons_succ, List.set_cons_zero]
              refine anyK_take (i := 5) (v := ?v3019) rfl (by kernel_rfl) (by kernel_rfl) (by kernel_rfl) (by kernel_rfl) (fun _ _ _ h => h) (by rfl) hHeld ?hy3019 (some 62) (by rfl) ?rest3019
              case hy3019 => (intro W' hSw; (try dsimp only at hSw); go_simp; (try with_reducible rfl))
              try simp only [Act.put]
              try simp only [List.setIfInBounds_toArray]
              try simp only [List.set_cons_succ, List.set_cons_zero]
              refine anyK_take (i := 6) (v := ?v3020) rfl (by kernel_rfl) (by kernel_rfl) (by kernel_rfl) (by kernel_rfl) (fun _ _ _ h => h) (by rfl) hHeld ?hy3020 (some 63) (by rfl) ?rest3020
              case hy3020 => (intro W' hSw; (try dsimp only at hSw); go_simp; (try with_reducible rfl))
              try simp only [Act.put]
              try simp only [List.setIfInBounds_toArray]
              try simp only [List.set_cons_succ, List.set_cons_zero]
              refine anyK_take (i := 7) (v := ?v3021) rfl (by kernel_rfl) (by kernel_rfl) (by kernel_rfl) (by kernel_rfl) (fun _ _ _ h => h) (by rfl) hHeld ?hy3021 (some 64) (by rfl) ?rest3021
              case hy3021 => (intro W' hSw; (try dsimp only at hSw); go_simp; (try with_reducible rfl))
              try simp only [Act.put]
              try simp only [List.setIfInBounds_toArray]
              try simp only [List.set_cons_succ, List.set_cons_zero]
              refine anyK_last (by kernel_rfl) rfl (fun K hK => ?_)
              go_simp
              refine hK.out _ _ ?_
              clear hK K hHeld
              refine anyK_done (by kernel_rfl) ?_ _
              have FA := fin_ans G0.out HQ.out Z0.out T0.out hgl HG12.out (by simpa using hS) rfl (by omega) (by omega)
              have TQ := hid FA.1
              have AN := hid FA.2
              have TP := hid HG12.out.box
              clear FA d0 f0 hcv hcv1 hcv2
              go_wp2_with (first
                | (refine wpList_load_row rfl 27 (.tmp 3) rfl p rfl 27 _ (0, 0) _ TP.out Tryd.underlying27 rfl sizeDk ?_)
                | (refine wpList_store_row rfl 27 (.tmp 2) (.tmp 127) rfl q0 #[.slice (some ⟨b, 0, none⟩) m cS, .slice aW W.length cW, .int .i64 (-1), .bool q2] rfl rfl 27 _ TQ.out ?s1x2 ?s2x2 ?s3x2 ?_))
              case s1x2 => simpa using sizeDk
              try case s2x2 => rfl
              case s3x2 => simp [Value.oneCell']
              refine bodyPost_ret (results_cell_row Tryd.results30 _ _ q0 27 #[.slice (some ⟨b, 0, none⟩) m cS, .slice aW W.length cW, .int .i64 (-1), .bool q2] (0, 0) _ rfl (setRow_heap _ _ _ _ _ _ TQ.out) Tryd.underlying27 rfl sizeDk) rfl ?_
              exact AN.out
            by_cases t2 : t = 2
            · subst t2
              clear y2 y3 y0 y1
              have H4 := hid (And.intro G11.out.drew.cell.1 G11.out.drew.cell.2.1)
              obtain ⟨j0, ji, jz0, jz1, jz2⟩ := info_parts Tryd.infoWr
              go_wp2_with fail
              refine region_K 11 (fun X => X.cell? ⟨p, 0, none⟩ = some (.slice (some ⟨b, 0, none⟩) m cS) ∧ X.cell? ⟨p, 1, none⟩ = some (.slice aW W.length cW)) (by kernel_rfl) ?_ (fun hHeld => ?_)
              · exact H4.out
              refine anyK_take (i := 0) (v := ?v3022) rfl (by kernel_rfl) (by kernel_rfl) (by kernel_rfl) (by kernel_rfl) (fun _ _ _ h => h) (by rfl) hHeld ?hy3022 (some 67) (by rfl) ?rest3022
              case hy3022 => (intro W' hSw; (try dsimp only at hSw); go_simp; (try with_reducible rfl))
              try simp only [Act.put]
              try simp only [List.setIfInBounds_toArray]
              try simp only [List.set_cons_succ, List.set_cons_zero]
              refine anyK_take (i := 1) (v := ?v3023) rfl (by kernel_rfl) (by kernel_rfl) (by kernel_rfl) (by kernel_rfl) (fun _ _ _ h => h) (by rfl) hHeld ?hy3023 (some 68) (by rfl) ?rest3023
              case hy3023 => (intro W' hSw; (try dsimp only at hSw); go_simp; (try with_reducible rfl))
              try simp only [Act.put]
              try simp only [List.setIfInBounds_toArray]
              try simp only [List.set_cons_succ, List.set_cons_zero]
              refine anyK_take (i := 2) (v := ?v3024) rfl (by kernel_rfl) (by kernel_rfl) (by kernel_rfl) (by kernel_rfl) (fun _ _ _ h => h) (by rfl) hHeld ?hy3024 (some 69) (by rfl) ?rest3024
              case hy3024 => (intro W' hSw; (try dsimp only at hSw); go_simp; (try with_reducible rfl))
              try simp only [Act.put]
              try simp only [List.setIfInBounds_toArray]
              try simp only [List.set_cons_succ, List.set_cons_zero]
              refine anyK_take (i := 3) (v := ?v3025) rfl (by kernel_rfl) (by kernel_rfl) (by kernel_rfl) (by kernel_rfl) (fun _ _ _ h => h) (by rfl) hHeld ?hy3025 (some 70) (by rfl) ?rest3025
              case hy3025 => (intro W' hSw; (try dsimp only at hSw); go_simp; (try with_reducible rfl))
              try simp only [Act.put]
              try simp only [List.setIfInBounds_toArray]
              try simp only [List.set_cons_succ, List.set_cons_zero]
              refine anyK_take (i := 4) (v := ?v3026) rfl (by kernel_rfl) (by kernel_rfl) (by kernel_rfl) (by kernel_rfl) (fun _ _ _ h => h) (by rfl) hHeld ?hy3026 (some 71) (by rfl) ?rest3026
              case hy3026 => (intro W' hSw; (try dsimp only at hSw); go_simp; (try with_reducible rfl))
              try simp only [Act.put]
              try simp only [List.setIfInBounds_toArray]
              try simp only [List.set_cons_succ, List.set_cons_zero]
              refine anyK_take (i := 5) (v := ?v3027) rfl (by kernel_rfl) (by kernel_rfl) (by kernel_rfl) (by kernel_rfl) (fun _ _ _ h => h) (by rfl) hHeld ?hy3027 (some 72) (by rfl) ?rest3027
              case hy3027 => (intro W' hSw; (try dsimp only at hSw); go_simp; (try with_reducible rfl))
              try simp only [Act.put]
              try simp only [List.setIfInBounds_toArray]
              try simp only [List.set_cons_succ, List.set_cons_zero]
              refine anyK_step (i := 6) (by kernel_rfl) rfl (fun K hK => ?_)
              go_simp
              refine (l4sector G11.out.drew.cur hn).mono ?_
              rintro e w5 ⟨v, L, rfl, hL, o5, bd5, c5, g5⟩
              have G5 := hid (G11.out.drew.cursor c5 g5)
              have R5 := hid (Ry.own o5 bd5)
              obtain ⟨av, cv, rfl, -⟩ := R5.out.row
              clear o5 bd5 c5 g5 hL
              go_wp2_with fail
              refine hK.out _ _ ?_ (fun hH2 => ?_)
              · exact ⟨G5.out.cell.1, G5.out.cell.2.1⟩
              clear hK K hHeld
              have hHeld := hH2
              clear hH2
              try simp only [Act.put]
              try simp only [List.setIfInBounds_toArray]
              try simp only [List.set_cons_succ, List.set_cons_zero]
              refine anyK_take (i := 7) (v := ?v3028) rfl (by kernel_rfl) (by kernel_rfl) (by kernel_rfl) (by kernel_rfl) (fun _ _ _ h => h) (by rfl) hHeld ?hy3028 (some 74) (by rfl) ?rest3028
              case hy3028 => (intro W' hSw; (try dsimp only at hSw); go_simp; (try with_reducible rfl))
              try simp only [Act.put]
              try simp only [List.setIfInBounds_toArray]
              try simp only [List.set_cons_succ, List.set_cons_zero]
              refine anyK_step (i := 8) (by kernel_rfl) rfl (fun K hK => ?_)
              go_simp
              refine hK.out _ _ ?_ (fun hH2 => ?_)
              · exact ⟨(G5.out.alloc _).cell.1, (G5.out.alloc _).cell.2.1⟩
              clear hK K hHeld
              have hHeld := hH2
              clear hH2
              try simp only [Act.put]
              try simp only [List.setIfInBounds_toArray]
              try simp only [List.set_cons_succ, List.set_cons_zero]
              have GA := hid (G5.out.alloc (.cells #[.int .i64 (m : Int), .slice av L.length cv] 40))
              obtain ⟨xs, ys, r⟩ := GA.out.rows
              have HRw := hid r
              have RA := hid (R5.out.grown (World.grownBy_alloc w5 (.cells #[.int .i64 (m : Int), .slice av L.length cv] 40) none) (fun k hk => by cases hk))
              clear r
              refine anyK_step (i := 9) (by kernel_rfl) rfl (fun K hK => ?_)
              refine step_append_lies _ (by rfl) _ _ _ (by rfl) U.heap.size 40 j0 (.agg #[.int .i64 0, .slice none 0 0]) 2 32 Tryd.underlying25 ji jz0 jz1 jz2 rfl (by omega) (.slice aW W.length cW) W.length (cellsW W ys) (by rfl) HRw.out.oW ⟨(w5).heap.size, 0, none⟩ 1 1 [.int .i64 (m : Int), .slice av L.length cv] (by rfl) rfl (World.news_of_block (heap_alloc_new w5 _)) (by simp [Value.oneCell']) (by omega) (by unfold maxLen; omega) (by omega) GA.out.size _ rfl ?_
              intro gg cc w6 ow6 gr6 _ _
              have HG6 := hid (GA.out.appW HRw.out RA.out ow6 gr6)
              have T6 := GA.out.midW HRw.out gr6
              have z0 : w6.cell? ⟨p, 0, none⟩ = some (.slice (some ⟨b, 0, none⟩) m cS) := by rw [cell_of_row _ _ _ _ _ _ T6]; rfl
              have z1 : w6.cell? ⟨p, 1, none⟩ = some (.slice aW W.length cW) := by rw [cell_of_row _ _ _ _ _ _ T6]; rfl
              have z2 : w6.frozen? ⟨p, 1, none⟩ = false := frozen_of_row _ _ _ _ _ T6
              clear ow6 gr6 T6
              refine hK.out _ _ ?_ (fun hH2 => ?_)
              · exact ⟨z0, z1⟩
              clear hK K hHeld
              have hHeld := hH2
              clear hH2
              try simp only [Act.put]
              try simp only [List.setIfInBounds_toArray]
              try simp only [List.set_cons_succ, List.set_cons_zero]
              refine anyK_step (i := 10) (by kernel_rfl) rfl (fun K hK => ?_)
              go_simp
              refine hK.out _ _ ?_ (fun hH2 => ?_)
              · exact ⟨z0, z1⟩
              clear hK K hHeld
              have hHeld := hH2
              clear hH2
              try simp only [Act.put]
              try simp only [List.setIfInBounds_toArray]
              try simp only [List.set_cons_succ, List.set_cons_zero]
              refine anyK_last (by kernel_rfl) rfl (fun K hK => ?_)
              go_simp
              refine hK.out _ _ ?_
              clear hK K hHeld
              refine anyK_done (by kernel_rfl) ?_ _
              have FA := fin_ans G0.out HQ.out Z0.out T0.out hgl HG6.out hS (by simp) (by omega) (by omega)
              have TQ := hid FA.1
              have AN := hid FA.2
              have TP := hid HG6.out.box
              clear FA z0 z1 z2 ji jz0 jz1 jz2
              go_wp2_with (first
                | (refine wpList_load_row rfl 27 (.tmp 3) rfl p rfl 27 _ (0, 0) _ TP.out Tryd.underlying27 rfl sizeDk ?_)
                | (refine wpList_store_row rfl 27 (.tmp 2) (.tmp 127) rfl q0 #[.slice (some ⟨b, 0, none⟩) m cS, .slice (some ⟨gg, 0, none⟩) (W.length + 1) cc, .int .i64 (-1), .bool q2] rfl rfl 27 _ TQ.out ?s1x3 ?s2x3 ?s3x3 ?_))
              case s1x3 => simpa using sizeDk
              try case s2x3 => rfl
              case s3x3 => simp [Value.oneCell']
              refine bodyPost_ret (results_cell_row Tryd.results30 _ _ q0 27 #[.slice (some ⟨b, 0, none⟩) m cS, .slice (some ⟨gg, 0, none⟩) (W.length + 1) cc, .int .i64 (-1), .bool q2] (0, 0) _ rfl (setRow_heap _ _ _ _ _ _ TQ.out) Tryd.underlying27 rfl sizeDk) rfl ?_
              exact AN.out
            by_cases t3 : t = 3
            · subst t3
              clear y2 y3 y0
              obtain ⟨j0, ji, jz0, jz1, jz2⟩ := info_parts Tryd.infoWr
              have GA := hid ((G11.out.alloc (.cells #[.int .u8 1] 5)).alloc (.cells #[.int .i64 0, .slice (some ⟨w11.heap.size, 0, none⟩) 1 1] 40))
              have RA := hid ((Ry.own (z := [1]) (World.ownsRow_lit (base := w11.heap.size) (e := 5) (size := 1) w11 #[.int .u8 1] 1 (Nat.le_refl _) (by unfold maxLen; omega) rfl) (fun i => by rcases i with _ | i <;> simp)).grown (World.grownBy_alloc (w11.alloc (.cells #[.int .u8 1] 5)) (.cells #[.int .i64 0, .slice (some ⟨w11.heap.size, 0, none⟩) 1 1] 40) none) (fun k hk => by cases hk))
              obtain ⟨xs, ys, r⟩ := GA.out.rows
              have HRw := hid r
              clear r
              go_wp2_with (at_builtin; refine wpList_append_lies _ rfl _ _ 25 rfl U.heap.size 40 j0 (.agg #[.int .i64 0, .slice none 0 0]) 2 32 Tryd.underlying25 ji jz0 jz1 jz2 rfl (by omega) (.slice aW W.length cW) W.length (cellsW W ys) rfl HRw.out.oW ⟨w11.heap.size + 1, 0, none⟩ 1 1 [.int .i64 0, .slice (some ⟨w11.heap.size, 0, none⟩) 1 1] rfl rfl (World.news_of_block (heap_new2 w11 _ _)) (by simp [Value.oneCell']) (by omega) (by unfold maxLen; omega) (by omega) GA.out.size _ rfl ?_)
              intro gg cc w6 ow6 gr6 _ _
              have HG6 := hid (GA.out.appW HRw.out RA.out ow6 gr6)
              have T6 := GA.out.midW HRw.out gr6
              have z1 : w6.cell? ⟨p, 1, none⟩ = some (.slice aW W.length cW) := by rw [cell_of_row _ _ _ _ _ _ T6]; rfl
              have z2 : w6.frozen? ⟨p, 1, none⟩ = false := frozen_of_row _ _ _ _ _ T6
              clear ow6 gr6 T6 y1 ji jz0 jz1 jz2
              have FA := fin_ans G0.out HQ.out Z0.out T0.out hgl HG6.out hS (by simp) (by omega) (by omega)
              have TQ := hid FA.1
              have AN := hid FA.2
              have TP := hid HG6.out.box
              clear FA 
              go_wp2_with (first
                | (refine wpList_load_row rfl 27 (.tmp 3) rfl p rfl 27 _ (0, 0) _ TP.out Tryd.underlying27 rfl sizeDk ?_)
                | (refine wpList_store_row rfl 27 (.tmp 2) (.tmp 127) rfl q0 #[.slice (some ⟨b, 0, none⟩) m cS, .slice (some ⟨gg, 0, none⟩) (W.length + 1) cc, .int .i64 (-1), .bool q2] rfl rfl 27 _ TQ.out ?s1x4 ?s2x4 ?s3x4 ?_))
              case s1x4 => simpa using sizeDk
              try case s2x4 => rfl
              case s3x4 => simp [Value.oneCell']
              refine bodyPost_ret (results_cell_row Tryd.results30 _ _ q0 27 #[.slice (some ⟨b, 0, none⟩) m cS, .slice (some ⟨gg, 0, none⟩) (W.length + 1) cc, .int .i64 (-1), .bool q2] (0, 0) _ rfl (setRow_heap _ _ _ _ _ _ TQ.out) Tryd.underlying27 rfl sizeDk) rfl ?_
              exact AN.out
            by_cases t4 : t = 4
            · subst t4
              have f0 := G11.out.froz 2
              have G12 := hid (G11.out.setF (-2))
              have FA := fin_ans G0.out HQ.out Z0.out T0.out hgl G12.out hS rfl (by omega) (by omega)
              have TQ := hid FA.1
              have AN := hid FA.2
              have TP := hid G12.out.box
              clear FA y0 y1 y3
              go_wp2_with (first
                | (refine wpList_load_row rfl 27 (.tmp 3) rfl p rfl 27 _ (0, 0) _ TP.out Tryd.underlying27 rfl sizeDk ?_)
                | (refine wpList_store_row rfl 27 (.tmp 2) (.tmp 127) rfl q0 #[.slice (some ⟨b, 0, none⟩) m cS, .slice aW W.length cW, .int .i64 (-2), .bool q2] rfl rfl 27 _ TQ.out ?s1x5 ?s2x5 ?s3x5 ?_))
              case s1x5 => simpa using sizeDk
              try case s2x5 => rfl
              case s3x5 => simp [Value.oneCell']
              refine bodyPost_ret (results_cell_row Tryd.results30 _ _ q0 27 #[.slice (some ⟨b, 0, none⟩) m cS, .slice aW W.length cW, .int .i64 (-2), .bool q2] (0, 0) _ rfl (setRow_heap _ _ _ _ _ _ TQ.out) Tryd.underlying27 rfl sizeDk) rfl ?_
              exact AN.out
            by_cases t5 : t = 5
            · subst t5
              clear y0 y1 y2 y3
              go_wp2_with fail
              go_loopw [] (fun wr => ∃ (W : List (Int × List Int)) (vW : Value), W.length ≤ 601 ∧ Hid (Gd U g p ad n cap zs wr (.slice (some ⟨b, 0, none⟩) m cS) vW S W (-1) q2)) (fun wr => 700 - lenOf ((wr.cell? ⟨p, 1, none⟩).getD undef))
              case atStart => exact ⟨W, _, by omega, G11⟩
              case round =>
                obtain ⟨W2, vW, hW2, hG⟩ := hrel
                clear G11
                obtain ⟨-, -, aW, cW, -, rfl⟩ := hG.out.forms
                have Y1 := hid hG.out.cell.2.1
                have y1d := hG.out.drew.cell.2.1
                go_wp2_with fail
                go_region_held3 (fun X => X.cell? ⟨p, 1, none⟩ = some (.slice aW W2.length cW)) (first | exact z1 | exact y1d)
                  (first
                  | (go_at_call_of 31 (Value.int IntKind.i64 2); refine (l1Below hG.out.drew.cur hn 2 (by omega) (by omega)).mono ?_; rintro e w12 ⟨y, rfl, hy0, hy1, c12, g12⟩; have G12 := hid (hG.out.drew.cursor c12 g12); have z1 := G12.out.cell.2.1))
                clear c12 g12 z1 y1d
                rw [wrapI (600 + y) (by omega) (by omega)]
                by_cases hco : (W2.length : Int) < 600 + y
                · obtain ⟨v0, d0, r0⟩ := G12.out.cellS (i := 0) hSm
                  have h6 := h64.out 0 hSm
                  obtain ⟨Z, hZ⟩ : ∃ Z, S.getD 0 [] = Z := ⟨_, rfl⟩
                  rw [hZ] at r0 h6
                  clear hZ
                  obtain ⟨av, cv, rfl, -⟩ := r0.row
                  rw [h6] at d0 r0
                  have H4 := hid (show (w12.drew.cell? ⟨p, 0, none⟩ = some (.slice (some ⟨b, 0, none⟩) m cS) ∧ w12.drew.cell? ⟨p, 1, none⟩ = some (.slice aW W2.length cW) ∧ w12.drew.cell? ⟨b, 0, none⟩ = some (.slice av 64 cv)) from ⟨G12.out.cell.1, G12.out.cell.2.1, d0⟩)
                  have D0A := hid (show (w12.alloc (.cells #[.int .i64 0, .slice av 64 cv] 40)).drew.cell? ⟨b, 0, none⟩ = some (.slice av 64 cv) from (World.grownBy_alloc w12 (.cells #[.int .i64 0, .slice av 64 cv] 40) none).cell d0 (by simp))
                  have GA := hid (G12.out.alloc (.cells #[.int .i64 0, .slice av 64 cv] 40)).drew
                  have RA := hid ((r0.grown (World.grownBy_alloc w12 (.cells #[.int .i64 0, .slice av 64 cv] 40) none) (fun k hk => by cases hk)).still (Still.drew _))
                  clear d0 r0
                  obtain ⟨j0, ji, jz0, jz1, jz2⟩ := info_parts Tryd.infoWr
                  go_wp2_with fail
                  refine region_K 10 (fun X => X.cell? ⟨p, 0, none⟩ = some (.slice (some ⟨b, 0, none⟩) m cS) ∧ X.cell? ⟨p, 1, none⟩ = some (.slice aW W2.length cW) ∧ X.cell? ⟨b, 0, none⟩ = some (.slice av 64 cv)) (by kernel_rfl) ?_ (fun hHeld => ?_)
                  · exact H4.out
                  refine anyK_take (i := 0) (v := ?v3029) rfl (by kernel_rfl) (by kernel_rfl) (by kernel_rfl) (by kernel_rfl) (fun _ _ _ h => h) (by rfl) hHeld ?hy3029 (some 99) (by rfl) ?rest3029
                  case hy3029 => (intro W' hSw; (try dsimp only at hSw); go_simp; (try with_reducible rfl))
                  try simp only [Act.put]
                  try simp only [List.setIfInBounds_toArray]
                  try simp only [List.set_cons_succ, List.set_cons_zero]
                  refine anyK_take (i := 1) (v := ?v3030) rfl (by kernel_rfl) (by kernel_rfl) (by kernel_rfl) (by kernel_rfl) (fun _ _ _ h => h) (by rfl) hHeld ?hy3030 (some 100) (by rfl) ?rest3030
                  case hy3030 => (intro W' hSw; (try dsimp only at hSw); go_simp; (try with_reducible rfl))
                  try simp only [Act.put]
                  try simp only [List.setIfInBounds_toArray]
                  try simp only [List.set_cons_succ, List.set_cons_zero]
                  refine anyK_take (i := 2) (v := ?v3031) rfl (by kernel_rfl) (by kernel_rfl) (by kernel_rfl) (by kernel_rfl) (fun _ _ _ h => h) (by rfl) hHeld ?hy3031 (some 101) (by rfl) ?rest3031
                  case hy3031 => (intro W' hSw; (try dsimp only at hSw); go_simp; (try with_reducible rfl))
                  try simp only [Act.put]
                  try simp only [List.setIfInBounds_toArray]
                  try simp only [List.set_cons_succ, List.set_cons_zero]
                  refine anyK_take (i := 3) (v := ?v3032) rfl (by kernel_rfl) (by kernel_rfl) (by kernel_rfl) (by kernel_rfl) (fun _ _ _ h => h) (by rfl) hHeld ?hy3032 (some 102) (by rfl) ?rest3032
                  case hy3032 => (intro W' hSw; (try dsimp only at hSw); go_simp; (try with_reducible rfl))
                  try simp only [Act.put]
                  try simp only [List.setIfInBounds_toArray]
                  try simp only [List.set_cons_succ, List.set_cons_zero]
                  refine anyK_take (i := 4) (v := ?v3033) rfl (by kernel_rfl) (by kernel_rfl) (by kernel_rfl) (by kernel_rfl) (fun _ _ _ h => h) (by rfl) hHeld ?hy3033 (some 103) (by rfl) ?rest3033
                  case hy3033 => (intro W' hSw; (try dsimp only at hSw); go_simp; (try with_reducible rfl))
                  try simp only [Act.put]
                  try simp only [List.setIfInBounds_toArray]
                  try simp only [List.set_cons_succ, List.set_cons_zero]
                  refine anyK_take (i := 5) (v := ?v3034) rfl (by kernel_rfl) (by kernel_rfl) (by kernel_rfl) (by kernel_rfl) (fun _ _ _ h => h) (by rfl) hHeld ?hy3034 (some 104) (by rfl) ?rest3034
                  case hy3034 => (intro W' hSw; (try dsimp only at hSw); go_simp; (try with_reducible rfl))
                  try simp only [Act.put]
                  try simp only [List.setIfInBounds_toArray]
                  try simp only [List.set_cons_succ, List.set_cons_zero]
                  refine anyK_take (i := 6) (v := ?v3035) rfl (by kernel_rfl) (by kernel_rfl) (by kernel_rfl) (by kernel_rfl) (fun _ _ _ h => h) (by rfl) hHeld ?hy3035 (some 105) (by rfl) ?rest3035
                  case hy3035 => (intro W' hSw; (try dsimp only at hSw); go_simp; (try with_reducible rfl))
                  try simp only [Act.put]
                  try simp only [List.setIfInBounds_toArray]
                  try simp only [List.set_cons_succ, List.set_cons_zero]
                  refine anyK_step (i := 7) (by kernel_rfl) rfl (fun K hK => ?_)
                  go_simp
                  refine hK.out _ _ ?_ (fun hH2 => ?_)
                  · exact ⟨GA.out.cell.1, GA.out.cell.2.1, D0A.out⟩
                  clear hK K hHeld
                  have hHeld := hH2
                  clear hH2
                  try simp only [Act.put]
                  try simp only [List.setIfInBounds_toArray]
                  try simp only [List.set_cons_succ, List.set_cons_zero]
                  obtain ⟨xs, ys, r⟩ := GA.out.rows
                  have HRw := hid r
                  clear r
                  refine anyK_step (i := 8) (by kernel_rfl) rfl (fun K hK => ?_)
                  refine step_append_lies _ (by rfl) _ _ _ (by rfl) U.heap.size 40 j0 (.agg #[.int .i64 0, .slice none 0 0]) 2 32 Tryd.underlying25 ji jz0 jz1 jz2 rfl (by omega) (.slice aW W2.length cW) W2.length (cellsW W2 ys) (by rfl) HRw.out.oW ⟨w12.heap.size, 0, none⟩ 1 1 [.int .i64 0, .slice av 64 cv] (by rfl) rfl (World.news_of_block (heap_alloc_new w12 _)) (by simp [Value.oneCell']) (by omega) (by unfold maxLen; omega) (by omega) GA.out.size _ rfl ?_
                  intro gg cc w6 ow6 gr6 _ _
                  have HG6 := hid (GA.out.appW HRw.out RA.out ow6 gr6)
                  have T6 := GA.out.midW HRw.out gr6
                  have z0 : w6.cell? ⟨p, 0, none⟩ = some (.slice (some ⟨b, 0, none⟩) m cS) := by rw [cell_of_row _ _ _ _ _ _ T6]; rfl
                  have z1 : w6.cell? ⟨p, 1, none⟩ = some (.slice aW W2.length cW) := by rw [cell_of_row _ _ _ _ _ _ T6]; rfl
                  have z2 : w6.frozen? ⟨p, 1, none⟩ = false := frozen_of_row _ _ _ _ _ T6
                  have z3 := (HRw.out.midW0 gr6 0).trans D0A.out
                  clear ow6 gr6 T6
                  refine hK.out _ _ ?_ (fun hH2 => ?_)
                  · exact ⟨z0, z1, z3⟩
                  clear hK K hHeld
                  have hHeld := hH2
                  clear hH2
                  try simp only [Act.put]
                  try simp only [List.setIfInBounds_toArray]
                  try simp only [List.set_cons_succ, List.set_cons_zero]
                  refine anyK_step (i := 9) (by kernel_rfl) rfl (fun K hK => ?_)
                  go_simp
                  refine hK.out _ _ ?_ (fun hH2 => ?_)
                  · exact ⟨z0, z1, z3⟩
                  clear hK K hHeld
                  have hHeld := hH2
                  clear hH2
                  try simp only [Act.put]
                  try simp only [List.setIfInBounds_toArray]
                  try simp only [List.set_cons_succ, List.set_cons_zero]
                  refine anyK_last (by kernel_rfl) rfl (fun K hK => ?_)
                  go_simp
                  refine hK.out _ _ ?_
                  clear hK K hHeld
                  refine anyK_done (by kernel_rfl) ?_ _
                  clear z0 z1 z2 z3 ji jz0 jz1 jz2
                  go_wp2_with fail
                  go_roundw
                  case rel => exact ⟨W2 ++ [(0, Z)], _, by simp; omega, HG6⟩
                  case measure => rw [HG6.out.cell.2.1, Y1.out]; simp [lenOf]; omega
                · clear Y1 hG
                  have FA := fin_ans G0.out HQ.out Z0.out T0.out hgl G12.out hS rfl (by omega) (by omega)
                  have TQ := hid FA.1
                  have AN := hid FA.2
                  have TP := hid G12.out.box
                  clear FA 
                  go_wp2_with (first
                    | (refine wpList_load_row rfl 27 (.tmp 3) rfl p rfl 27 _ (0, 0) _ TP.out Tryd.underlying27 rfl sizeDk ?_)
                    | (refine wpList_store_row rfl 27 (.tmp 2) (.tmp 127) rfl q0 #[.slice (some ⟨b, 0, none⟩) m cS, .slice aW W2.length cW, .int .i64 (-1), .bool q2] rfl rfl 27 _ TQ.out ?s1x6 ?s2x6 ?s3x6 ?_))
                  case s1x6 => simpa using sizeDk
                  try case s2x6 => rfl
                  case s3x6 => simp [Value.oneCell']
                  refine bodyPost_ret (results_cell_row Tryd.results30 _ _ q0 27 #[.slice (some ⟨b, 0, none⟩) m cS, .slice aW W2.length cW, .int .i64 (-1), .bool q2] (0, 0) _ rfl (setRow_heap _ _ _ _ _ _ TQ.out) Tryd.underlying27 rfl sizeDk) rfl ?_
                  exact AN.out
            by_cases t6 : t = 6
            · subst t6
              clear y0 y1 y2 y3
              go_wp2_with fail
              go_loopw [] (fun wr => ∃ (S2 : List (List Int)) (b2 c2 : Nat), 0 < S2.length ∧ S2.length ≤ 513 ∧ Hid ((S2.getD 0 []).length = 64) ∧ Hid (Gd U g p ad n cap zs wr (.slice (some ⟨b2, 0, none⟩) S2.length c2) (.slice aW W.length cW) S2 W (-1) q2)) (fun wr => 700 - lenOf ((wr.cell? ⟨p, 0, none⟩).getD undef))
              case atStart => exact ⟨S, b, cS, hSm, by omega, hid (h64.out 0 hSm), by rw [hS]; exact G11⟩
              case round =>
                obtain ⟨S2, b2, c2, hS0, hS1, h6h, hG⟩ := hrel
                clear G11
                have Y1 := hid hG.out.cell.1
                have y1d := hG.out.drew.cell.1
                go_wp2_with fail
                go_region_held3 (fun X => X.cell? ⟨p, 0, none⟩ = some (.slice (some ⟨b2, 0, none⟩) S2.length c2)) (first | exact z1 | exact y1d)
                  (first
                  | (go_at_call_of 31 (Value.int IntKind.i64 2); refine (l1Below hG.out.drew.cur hn 2 (by omega) (by omega)).mono ?_; rintro e w12 ⟨y, rfl, hy0, hy1, c12, g12⟩; have G12 := hid (hG.out.drew.cursor c12 g12); have z1 := G12.out.cell.1))
                clear c12 g12 z1 y1d
                rw [wrapI (512 + y) (by omega) (by omega)]
                by_cases hco : (S2.length : Int) < 512 + y
                · obtain ⟨v0, d0, r0⟩ := G12.out.cellS (i := 0) hS0
                  have h6 := h6h.out
                  obtain ⟨Z, hZ⟩ : ∃ Z, S2.getD 0 [] = Z := ⟨_, rfl⟩
                  have HZ := hid hZ
                  rw [hZ] at r0 h6
                  clear hZ
                  obtain ⟨av, cv, rfl, -⟩ := r0.row
                  rw [h6] at d0 r0
                  have H6 := hid h6
                  have H4 := hid (show w12.drew.cell? ⟨p, 0, none⟩ = some (.slice (some ⟨b2, 0, none⟩) S2.length c2) from G12.out.cell.1)
                  have d0d : w12.drew.cell? ⟨b2, 0, none⟩ = some (.slice av 64 cv) := d0
                  have hS0' : (0 : Int) < (S2.length : Int) := by omega
                  have GA := hid (G12.out.alloc (.cells #[.slice av 64 cv] 22)).drew
                  have RA := hid ((r0.grown (World.grownBy_alloc w12 (.cells #[.slice av 64 cv] 22) none) (fun k hk => by cases hk)).still (Still.drew _))
                  clear d0 r0 h6
                  obtain ⟨j0, ji, jz0, jz1, jz2⟩ := info_parts Tryd.info22
                  go_wp2_with fail
                  refine region_K 9 (fun X => X.cell? ⟨p, 0, none⟩ = some (.slice (some ⟨b2, 0, none⟩) S2.length c2)) (by kernel_rfl) ?_ (fun hHeld => ?_)
                  · exact H4.out
                  refine anyK_take (i := 0) (v := ?v3036) rfl (by kernel_rfl) (by kernel_rfl) (by kernel_rfl) (by kernel_rfl) (fun _ _ _ h => h) (by rfl) hHeld ?hy3036 (some 118) (by rfl) ?rest3036
                  case hy3036 => (intro W' hSw; (try dsimp only at hSw); go_simp; (try with_reducible rfl))
                  try simp only [Act.put]
                  try simp only [List.setIfInBounds_toArray]
                  try simp only [List.set_cons_succ, List.set_cons_zero]
                  refine anyK_take (i := 1) (v := ?v3037) rfl (by kernel_rfl) (by kernel_rfl) (by kernel_rfl) (by kernel_rfl) (fun _ _ _ h => h) (by rfl) hHeld ?hy3037 (some 119) (by rfl) ?rest3037
                  case hy3037 => (intro W' hSw; (try dsimp only at hSw); go_simp; (try with_reducible rfl))
                  try simp only [Act.put]
                  try simp only [List.setIfInBounds_toArray]
                  try simp only [List.set_cons_succ, List.set_cons_zero]
                  refine anyK_take (i := 2) (v := ?v3038) rfl (by kernel_rfl) (by kernel_rfl) (by kernel_rfl) (by kernel_rfl) (fun _ _ _ h => h) (by rfl) hHeld ?hy3038 (some 120) (by rfl) ?rest3038
                  case hy3038 => (intro W' hSw; (try dsimp only at hSw); go_simp; (try with_reducible rfl))
                  try simp only [Act.put]
                  try simp only [List.setIfInBounds_toArray]
                  try simp only [List.set_cons_succ, List.set_cons_zero]
                  refine anyK_take (i := 3) (v := ?v3039) rfl (by kernel_rfl) (by kernel_rfl) (by kernel_rfl) (by kernel_rfl) (fun _ _ _ h => h) (by rfl) hHeld ?hy3039 (some 121) (by rfl) ?rest3039
                  case hy3039 => (intro W' hSw; (try dsimp only at hSw); go_simp; (try with_reducible rfl))
                  try simp only [Act.put]
                  try simp only [List.setIfInBounds_toArray]
                  try simp only [List.set_cons_succ, List.set_cons_zero]
                  refine anyK_take (i := 4) (v := ?v3040) rfl (by kernel_rfl) (by kernel_rfl) (by kernel_rfl) (by kernel_rfl) (fun _ _ _ h => h) (by rfl) hHeld ?hy3040 (some 122) (by rfl) ?rest3040
                  case hy3040 => (intro W' hSw; (try dsimp only at hSw); go_simp; (try with_reducible rfl))
                  try simp only [Act.put]
                  try simp only [List.setIfInBounds_toArray]
                  try simp only [List.set_cons_succ, List.set_cons_zero]
                  refine anyK_step (i := 5) (by kernel_rfl) rfl (fun K hK => ?_)
                  go_simp
                  refine hK.out _ _ ?_ (fun hH2 => ?_)
                  · exact H4.out
                  clear hK K hHeld
                  have hHeld := hH2
                  clear hH2
                  try simp only [Act.put]
                  try simp only [List.setIfInBounds_toArray]
                  try simp only [List.set_cons_succ, List.set_cons_zero]
                  refine anyK_step (i := 6) (by kernel_rfl) rfl (fun K hK => ?_)
                  go_simp
                  refine hK.out _ _ ?_ (fun hH2 => ?_)
                  · exact GA.out.cell.1
                  clear hK K hHeld
                  have hHeld := hH2
                  clear hH2
                  try simp only [Act.put]
                  try simp only [List.setIfInBounds_toArray]
                  try simp only [List.set_cons_succ, List.set_cons_zero]
                  obtain ⟨xs, ys, r⟩ := GA.out.rows
                  have HRw := hid r
                  clear r d0d
                  refine anyK_step (i := 7) (by kernel_rfl) rfl (fun K hK => ?_)
                  refine step_append_lies _ (by rfl) _ _ _ (by rfl) U.heap.size 22 j0 (.slice none 0 0) 1 24 Tryd.underlying24 ji jz0 jz1 jz2 rfl (by omega) (.slice (some ⟨b2, 0, none⟩) S2.length c2) S2.length xs (by rfl) HRw.out.oS ⟨w12.heap.size, 0, none⟩ 1 1 [.slice av 64 cv] (by rfl) rfl (World.news_of_block (heap_alloc_new w12 _)) (by simp [Value.oneCell']) (by omega) (by unfold maxLen; omega) (by omega) GA.out.size _ rfl ?_
                  intro gg cc w6 ow6 gr6 _ _
                  have HG6 := hid (GA.out.appS HRw.out RA.out ow6 gr6)
                  have T6 := GA.out.midS HRw.out gr6
                  have z0 : w6.cell? ⟨p, 0, none⟩ = some (.slice (some ⟨b2, 0, none⟩) S2.length c2) := by rw [cell_of_row _ _ _ _ _ _ T6]; rfl
                  have z2 : w6.frozen? ⟨p, 0, none⟩ = false := frozen_of_row _ _ _ _ _ T6
                  clear ow6 gr6 T6
                  refine hK.out _ _ ?_ (fun hH2 => ?_)
                  · exact z0
                  clear hK K hHeld
                  have hHeld := hH2
                  clear hH2
                  try simp only [Act.put]
                  try simp only [List.setIfInBounds_toArray]
                  try simp only [List.set_cons_succ, List.set_cons_zero]
                  refine anyK_step (i := 8) (by kernel_rfl) rfl (fun K hK => ?_)
                  go_simp
                  refine hK.out _ _ ?_ (fun hH2 => ?_)
                  · exact z0
                  clear hK K hHeld
                  have hHeld := hH2
                  clear hH2
                  try simp only [Act.put]
                  try simp only [List.setIfInBounds_toArray]
                  try simp only [List.set_cons_succ, List.set_cons_zero]
                  refine anyK_last (by kernel_rfl) rfl (fun K hK => ?_)
                  go_simp
                  refine hK.out _ _ ?_
                  clear hK K hHeld
                  refine anyK_done (by kernel_rfl) ?_ _
                  clear z0 z2 ji jz0 jz1 jz2
                  go_wp2_with fail
                  go_roundw
                  case rel => exact ⟨S2 ++ [Z], gg, cc, by simp, by simp; omega, hid (by rw [getD_app, if_pos hS0, HZ.out]; exact H6.out), by rw [List.length_append]; exact HG6⟩
                  case measure => rw [HG6.out.cell.1, Y1.out]; simp [lenOf]; omega
                · clear Y1 hG
                  have FA := fin_ans G0.out HQ.out Z0.out T0.out hgl G12.out rfl rfl (by omega) (by omega)
                  have TQ := hid FA.1
                  have AN := hid FA.2
                  have TP := hid G12.out.box
                  clear FA 
                  go_wp2_with (first
                    | (refine wpList_load_row rfl 27 (.tmp 3) rfl p rfl 27 _ (0, 0) _ TP.out Tryd.underlying27 rfl sizeDk ?_)
                    | (refine wpList_store_row rfl 27 (.tmp 2) (.tmp 127) rfl q0 #[.slice (some ⟨b2, 0, none⟩) S2.length c2, .slice aW W.length cW, .int .i64 (-1), .bool q2] rfl rfl 27 _ TQ.out ?s1x7 ?s2x7 ?s3x7 ?_))
                  case s1x7 => simpa using sizeDk
                  try case s2x7 => rfl
                  case s3x7 => simp [Value.oneCell']
                  refine bodyPost_ret (results_cell_row Tryd.results30 _ _ q0 27 #[.slice (some ⟨b2, 0, none⟩) S2.length c2, .slice aW W.length cW, .int .i64 (-1), .bool q2] (0, 0) _ rfl (setRow_heap _ _ _ _ _ _ TQ.out) Tryd.underlying27 rfl sizeDk) rfl ?_
                  exact AN.out
            have FA := fin_ans G0.out HQ.out Z0.out T0.out hgl G11.out hS rfl (by omega) (by omega)
            have TQ := hid FA.1
            have AN := hid FA.2
            have TP := hid G11.out.box
            clear FA y0 y1 y2 y3
            go_wp2_with (first
              | (refine wpList_load_row rfl 27 (.tmp 3) rfl p rfl 27 _ (0, 0) _ TP.out Tryd.underlying27 rfl sizeDk ?_)
              | (refine wpList_store_row rfl 27 (.tmp 2) (.tmp 127) rfl q0 #[.slice (some ⟨b, 0, none⟩) m cS, .slice aW W.length cW, .int .i64 (-1), .bool q2] rfl rfl 27 _ TQ.out ?s1x8 ?s2x8 ?s3x8 ?_))
            case s1x8 => simpa using sizeDk
            try case s2x8 => rfl
            case s3x8 => simp [Value.oneCell']
            refine bodyPost_ret (results_cell_row Tryd.results30 _ _ q0 27 #[.slice (some ⟨b, 0, none⟩) m cS, .slice aW W.length cW, .int .i64 (-1), .bool q2] (0, 0) _ rfl (setRow_heap _ _ _ _ _ _ TQ.out) Tryd.underlying27 rfl sizeDk) rfl ?_
            exact AN.out
          · go_wp2_with fail
            refine (l1Below G7.out.cur hn 3 (by omega) (by omega)).mono ?_
            rintro e w8 ⟨fu, rfl, hf0, hf1, c8, g8⟩
            have G8 := hid (G7.out.cursor c8 g8)
            clear G7 c8 g8
            obtain ⟨y0, y1, y2, y3⟩ := G8.out.cell
            have f2 := G8.out.froz 2
            have G9a := hid (G8.out.setF fu)
            clear G8
            go_wp2_with fail
            clear y0 y1 y2 y3 f2
            generalize w8.setCell ⟨p, 2, none⟩ (.int .i64 fu) = w8' at *
            refine (l1Once G9a.out.cur hn 8 (by omega) (by omega)).mono ?_
            rintro e w9 ⟨q2, rfl, c9, g9⟩
            have G9 := hid (G9a.out.cursor c9 g9)
            clear c9 g9 G9a
            obtain ⟨y0, y1, y2, y3⟩ := G9.out.cell
            have f3 := G9.out.froz 3
            have G10 := hid (G9.out.setD q2)
            clear G9
            go_wp2_with fail
            clear y0 y1 y2 y3 f3
            generalize w9.setCell ⟨p, 3, none⟩ (.bool q2) = w10 at *
            refine (l1Below G10.out.cur hn 30 (by omega) (by omega)).mono ?_
            rintro e w11 ⟨t, rfl, ht0, ht1, c11, g11⟩
            have G11 := hid (G10.out.cursor c11 g11)
            clear c11 g11 G10
            obtain ⟨y0, y1, y2, y3⟩ := G11.out.cell
            by_cases t0 : t = 0
            · subst t0
              have f0 := G11.out.froz 0
              have G12 := hid G11.out.noS
              have FA := fin_ans G0.out HQ.out Z0.out T0.out hgl G12.out rfl rfl (by omega) (by omega)
              have TQ := hid FA.1
              have AN := hid FA.2
              have TP := hid G12.out.box
              clear FA y1 y2 y3
              go_wp2_with (first
                | (refine wpList_load_row rfl 27 (.tmp 3) rfl p rfl 27 _ (0, 0) _ TP.out Tryd.underlying27 rfl sizeDk ?_)
                | (refine wpList_store_row rfl 27 (.tmp 2) (.tmp 127) rfl q0 #[.slice none 0 0, .slice aW W.length cW, .int .i64 fu, .bool q2] rfl rfl 27 _ TQ.out ?s1x9 ?s2x9 ?s3x9 ?_))
              case s1x9 => simpa using sizeDk
              try case s2x9 => rfl
              case s3x9 => simp [Value.oneCell']
              refine bodyPost_ret (results_cell_row Tryd.results30 _ _ q0 27 #[.slice none 0 0, .slice aW W.length cW, .int .i64 fu, .bool q2] (0, 0) _ rfl (setRow_heap _ _ _ _ _ _ TQ.out) Tryd.underlying27 rfl sizeDk) rfl ?_
              exact AN.out
            by_cases t1 : t = 1
            · subst t1
              clear y1 y2 y3 y0
              have h6 := h64.out 0 hSm
              obtain ⟨v0, d0, r0⟩ := G11.out.drew.cellS (i := 0) hSm
              obtain ⟨av, cv, rfl, -⟩ := r0.row
              obtain ⟨bb, oo, rfl, -, r1⟩ := r0.tail (by omega)
              have hcv := r0.cp _ _ _ rfl
              rw [h6] at d0 r1 hcv
              obtain ⟨f0, G12⟩ := G11.out.drew.storeS hSm r1
              have HG12 := hid G12
              have y0 := G11.out.drew.cell.1
              have H4 := hid (And.intro y0 d0)
              have hcv1 : ¬ cv = 1 := by omega
              have hcv2 : (1 : Int) ≤ (cv : Int) := by omega
              clear G12 r0 r1 h6 y0
              go_wp2_with fail
              refine region_K 8 (fun X => X.cell? ⟨p, 0, none⟩ = some (.slice (some ⟨b, 0, none⟩) m cS) ∧ X.cell? ⟨b, 0, none⟩ = some (.slice (some ⟨bb, oo, none⟩) 64 cv)) (by kernel_rfl) ?_ (fun hHeld => ?_)
              · exact H4.out
              refine anyK_take (i := 0) (v := ?v3041) rfl (by kernel_rfl) (by kernel_rfl) (by kernel_rfl) (by kernel_rfl) (fun _ _ _ h => h) (by rfl) hHeld ?hy3041 (some 57) (by rfl) ?rest3041
              case hy3041 => (intro W' hSw; (try dsimp only at hSw); go_simp; (try with_reducible rfl))
              try simp only [Act.put]
              try simp only [List.setIfInBounds_toArray]
              try simp only [List.set_cons_succ, List.set_cons_zero]
              refine anyK_take (i := 1) (v := ?v3042) rfl (by kernel_rfl) (by kernel_rfl) (by kernel_rfl) (by kernel_rfl) (fun _ _ _ h => h) (by rfl) hHeld ?hy3042 (some 58) (by rfl) ?rest3042
              case hy3042 => (intro W' hSw; (try dsimp only at hSw); go_simp; (try with_reducible rfl))
              try simp only [Act.put]
              try simp only [List.setIfInBounds_toArray]
              try simp only [List.set_cons_succ, List.set_cons_zero]
              refine anyK_take (i := 2) (v := ?v3043) rfl (by kernel_rfl) (by kernel_rfl) (by kernel_rfl) (by kernel_rfl) (fun _ _ _ h => h) (by rfl) hHeld ?hy3043 (some 59) (by rfl) ?rest3043
              case hy3043 => (intro W' hSw; (try dsimp only at hSw); go_simp; (try with_reducible rfl))
              try simp only [Act.put]
              try simp only [List.setIfInBounds_toArray]
              try simp only [List.set_cons_succ, List.set_cons_zero]
              refine anyK_take (i := 3) (v := ?v3044) rfl (by kernel_rfl) (by kernel_rfl) (by kernel_rfl) (by kernel_rfl) (fun _ _ _ h => h) (by rfl) hHeld ?hy3044 (some 60) (by rfl) ?rest3044
              case hy3044 => (intro W' hSw; (try dsimp only at hSw); go_simp; (try with_reducible rfl))
              try simp only [Act.put]
              try simp only [List.setIfInBounds_toArray]
              try simp only [List.set_cons_succ, List.set_cons_zero]
              refine anyK_take (i := 4) (v := ?v3045) rfl (by kernel_rfl) (by kernel_rfl) (by kernel_rfl) (by kernel_rfl) (fun _ _ _ h => h) (by rfl) hHeld ?hy3045 (some 61) (by rfl) ?rest3045
              case hy3045 => (intro W' hSw; (try dsimp only at hSw); go_simp; (try with_reducible rfl))
              try simp only [Act.put]
              try simp only [List.setIfInBounds_toArray]
              try simp only [List.set_cons_succ, List.set_cons_zero]
              refine anyK_take (i := 5) (v := ?v3046) rfl (by kernel_rfl) (by kernel_rfl) (by kernel_rfl) (by kernel_rfl) (fun _ _ _ h => h) (by rfl) hHeld ?hy3046 (some 62) (by rfl) ?rest3046
              case hy3046 => (intro W' hSw; (try dsimp only at hSw); go_simp; (try with_reducible rfl))
              try simp only [Act.put]
              try simp only [List.setIfInBounds_toArray]
              try simp only [List.set_cons_succ, List.set_cons_zero]
              refine anyK_take (i := 6) (v := ?v3047) rfl (by kernel_rfl) (by kernel_rfl) (by kernel_rfl) (by kernel_rfl) (fun _ _ _ h => h) (by rfl) hHeld ?hy3047 (some 63) (by rfl) ?rest3047
              case hy3047 => (intro W' hSw; (try dsimp only at hSw); go_simp; (try with_reducible rfl))
              try simp only [Act.put]
              try simp only [List.setIfInBounds_toArray]
              try simp only [List.set_cons_succ, List.set_cons_zero]
              refine anyK_take (i := 7) (v := ?v3048) rfl (by kernel_rfl) (by kernel_rfl) (by kernel_rfl) (by kernel_rfl) (fun _ _ _ h => h) (by rfl) hHeld ?hy3048 (some 64) (by rfl) ?rest3048
              case hy3048 => (intro W' hSw; (try dsimp only at hSw); go_simp; (try with_reducible rfl))
              try simp only [Act.put]
              try simp only [List.setIfInBounds_toArray]
              try simp only [List.set_cons_succ, List.set_cons_zero]
              refine anyK_last (by kernel_rfl) rfl (fun K hK => ?_)
              go_simp
              refine hK.out _ _ ?_
              clear hK K hHeld
              refine anyK_done (by kernel_rfl) ?_ _
              have FA := fin_ans G0.out HQ.out Z0.out T0.out hgl HG12.out (by simpa using hS) rfl (by omega) (by omega)
              have TQ := hid FA.1
              have AN := hid FA.2
              have TP := hid HG12.out.box
              clear FA d0 f0 hcv hcv1 hcv2
              go_wp2_with (first
                | (refine wpList_load_row rfl 27 (.tmp 3) rfl p rfl 27 _ (0, 0) _ TP.out Tryd.underlying27 rfl sizeDk ?_)
                | (refine wpList_store_row rfl 27 (.tmp 2) (.tmp 127) rfl q0 #[.slice (some ⟨b, 0, none⟩) m cS, .slice aW W.length cW, .int .i64 fu, .bool q2] rfl rfl 27 _ TQ.out ?s1x10 ?s2x10 ?s3x10 ?_))
              case s1x10 => simpa using sizeDk
              try case s2x10 => rfl
              case s3x10 => simp [Value.oneCell']
              refine bodyPost_ret (results_cell_row Tryd.results30 _ _ q0 27 #[.slice (some ⟨b, 0, none⟩) m cS, .slice aW W.length cW, .int .i64 fu, .bool q2] (0, 0) _ rfl (setRow_heap _ _ _ _ _ _ TQ.out) Tryd.underlying27 rfl sizeDk) rfl ?_
              exact AN.out
            by_cases t2 : t = 2
            · subst t2
              clear y2 y3 y0 y1
              have H4 := hid (And.intro G11.out.drew.cell.1 G11.out.drew.cell.2.1)
              obtain ⟨j0, ji, jz0, jz1, jz2⟩ := info_parts Tryd.infoWr
              go_wp2_with fail
              refine region_K 11 (fun X => X.cell? ⟨p, 0, none⟩ = some (.slice (some ⟨b, 0, none⟩) m cS) ∧ X.cell? ⟨p, 1, none⟩ = some (.slice aW W.length cW)) (by kernel_rfl) ?_ (fun hHeld => ?_)
              · exact H4.out
              refine anyK_take (i := 0) (v := ?v3049) rfl (by kernel_rfl) (by kernel_rfl) (by kernel_rfl) (by kernel_rfl) (fun _ _ _ h => h) (by rfl) hHeld ?hy3049 (some 67) (by rfl) ?rest3049
              case hy3049 => (intro W' hSw; (try dsimp only at hSw); go_simp; (try with_reducible rfl))
              try simp only [Act.put]
              try simp only [List.setIfInBounds_toArray]
              try simp only [List.set_cons_succ, List.set_cons_zero]
              refine anyK_take (i := 1) (v := ?v3050) rfl (by kernel_rfl) (by kernel_rfl) (by kernel_rfl) (by kernel_rfl) (fun _ _ _ h => h) (by rfl) hHeld ?hy3050 (some 68) (by rfl) ?rest3050
              case hy3050 => (intro W' hSw; (try dsimp only at hSw); go_simp; (try with_reducible rfl))
              try simp only [Act.put]
              try simp only [List.setIfInBounds_toArray]
              try simp only [List.set_cons_succ, List.set_cons_zero]
              refine anyK_take (i := 2) (v := ?v3051) rfl (by kernel_rfl) (by kernel_rfl) (by kernel_rfl) (by kernel_rfl) (fun _ _ _ h => h) (by rfl) hHeld ?hy3051 (some 69) (by rfl) ?rest3051
              case hy3051 => (intro W' hSw; (try dsimp only at hSw); go_simp; (try with_reducible rfl))
              try simp only [Act.put]
              try simp only [List.setIfInBounds_toArray]
              try simp only [List.set_cons_succ, List.set_cons_zero]
              refine anyK_take (i := 3) (v := ?v3052) rfl (by kernel_rfl) (by kernel_rfl) (by kernel_rfl) (by kernel_rfl) (fun _ _ _ h => h) (by rfl) hHeld ?hy3052 (some 70) (by rfl) ?rest3052
              case hy3052 => (intro W' hSw; (try dsimp only at hSw); go_simp; (try with_reducible rfl))
              try simp only [Act.put]
              try simp only [List.setIfInBounds_toArray]
              try simp only [List.set_cons_succ, List.set_cons_zero]
              refine anyK_take (i := 4) (v := ?v3053) rfl (by kernel_rfl) (by kernel_rfl) (by kernel_rfl) (by kernel_rfl) (fun _ _ _ h => h) (by rfl) hHeld ?hy3053 (some 71) (by rfl) ?rest3053
              case hy3053 => (intro W' hSw; (try dsimp only at hSw); go_simp; (try with_reducible rfl))
              try simp only [Act.put]
              try simp only [List.setIfInBounds_toArray]
              try simp only [List.set_cons_succ, List.set_cons_zero]
              refine anyK_take (i := 5) (v := ?v3054) rfl (by kernel_rfl) (by kernel_rfl) (by kernel_rfl) (by kernel_rfl) (fun _ _ _ h => h) (by rfl) hHeld ?hy3054 (some 72) (by rfl) ?rest3054
              case hy3054 => (intro W' hSw; (try dsimp only at hSw); go_simp; (try with_reducible rfl))
              try simp only [Act.put]
              try simp only [List.setIfInBounds_toArray]
              try simp only [List.set_cons_succ, List.set_cons_zero]
              refine anyK_step (i := 6) (by kernel_rfl) rfl (fun K hK => ?_)
              go_simp
              refine (l4sector G11.out.drew.cur hn).mono ?_
              rintro e w5 ⟨v, L, rfl, hL, o5, bd5, c5, g5⟩
              have G5 := hid (G11.out.drew.cursor c5 g5)
              have R5 := hid (Ry.own o5 bd5)
              obtain ⟨av, cv, rfl, -⟩ := R5.out.row
              clear o5 bd5 c5 g5 hL
              go_wp2_with fail
              refine hK.out _ _ ?_ (fun hH2 => ?_)
              · exact ⟨G5.out.cell.1, G5.out.cell.2.1⟩
              clear hK K hHeld
              have hHeld := hH2
              clear hH2
              try simp only [Act.put]
              try simp only [List.setIfInBounds_toArray]
              try simp only [List.set_cons_succ, List.set_cons_zero]
              refine anyK_take (i := 7) (v := ?v3055) rfl (by kernel_rfl) (by kernel_rfl) (by kernel_rfl) (by kernel_rfl) (fun _ _ _ h => h) (by rfl) hHeld ?hy3055 (some 74) (by rfl) ?rest3055
              case hy3055 => (intro W' hSw; (try dsimp only at hSw); go_simp; (try with_reducible rfl))
              try simp only [Act.put]
              try simp only [List.setIfInBounds_toArray]
              try simp only [List.set_cons_succ, List.set_cons_zero]
              refine anyK_step (i := 8) (by kernel_rfl) rfl (fun K hK => ?_)
              go_simp
              refine hK.out _ _ ?_ (fun hH2 => ?_)
              · exact ⟨(G5.out.alloc _).cell.1, (G5.out.alloc _).cell.2.1⟩
              clear hK K hHeld
              have hHeld := hH2
              clear hH2
              try simp only [Act.put]
              try simp only [List.setIfInBounds_toArray]
              try simp only [List.set_cons_succ, List.set_cons_zero]
              have GA := hid (G5.out.alloc (.cells #[.int .i64 (m : Int), .slice av L.length cv] 40))
              obtain ⟨xs, ys, r⟩ := GA.out.rows
              have HRw := hid r
              have RA := hid (R5.out.grown (World.grownBy_alloc w5 (.cells #[.int .i64 (m : Int), .slice av L.length cv] 40) none) (fun k hk => by cases hk))
              clear r
              refine anyK_step (i := 9) (by kernel_rfl) rfl (fun K hK => ?_)
              refine step_append_lies _ (by rfl) _ _ _ (by rfl) U.heap.size 40 j0 (.agg #[.int .i64 0, .slice none 0 0]) 2 32 Tryd.underlying25 ji jz0 jz1 jz2 rfl (by omega) (.slice aW W.length cW) W.length (cellsW W ys) (by rfl) HRw.out.oW ⟨(w5).heap.size, 0, none⟩ 1 1 [.int .i64 (m : Int), .slice av L.length cv] (by rfl) rfl (World.news_of_block (heap_alloc_new w5 _)) (by simp [Value.oneCell']) (by omega) (by unfold maxLen; omega) (by omega) GA.out.size _ rfl ?_
              intro gg cc w6 ow6 gr6 _ _
              have HG6 := hid (GA.out.appW HRw.out RA.out ow6 gr6)
              have T6 := GA.out.midW HRw.out gr6
              have z0 : w6.cell? ⟨p, 0, none⟩ = some (.slice (some ⟨b, 0, none⟩) m cS) := by rw [cell_of_row _ _ _ _ _ _ T6]; rfl
              have z1 : w6.cell? ⟨p, 1, none⟩ = some (.slice aW W.length cW) := by rw [cell_of_row _ _ _ _ _ _ T6]; rfl
              have z2 : w6.frozen? ⟨p, 1, none⟩ = false := frozen_of_row _ _ _ _ _ T6
              clear ow6 gr6 T6
              refine hK.out _ _ ?_ (fun hH2 => ?_)
              · exact ⟨z0, z1⟩
              clear hK K hHeld
              have hHeld := hH2
              clear hH2
              try simp only [Act.put]
              try simp only [List.setIfInBounds_toArray]
              try simp only [List.set_cons_succ, List.set_cons_zero]
              refine anyK_step (i := 10) (by kernel_rfl) rfl (fun K hK => ?_)
              go_simp
              refine hK.out _ _ ?_ (fun hH2 => ?_)
              · exact ⟨z0, z1⟩
              clear hK K hHeld
              have hHeld := hH2
              clear hH2
              try simp only [Act.put]
              try simp only [List.setIfInBounds_toArray]
              try simp only [List.set_cons_succ, List.set_cons_zero]
              refine anyK_last (by kernel_rfl) rfl (fun K hK => ?_)
              go_simp
              refine hK.out _ _ ?_
              clear hK K hHeld
              refine anyK_done (by kernel_rfl) ?_ _
              have FA := fin_ans G0.out HQ.out Z0.out T0.out hgl HG6.out hS (by simp) (by omega) (by omega)
              have TQ := hid FA.1
              have AN := hid FA.2
              have TP := hid HG6.out.box
              clear FA z0 z1 z2 ji jz0 jz1 jz2
              go_wp2_with (first
                | (refine wpList_load_row rfl 27 (.tmp 3) rfl p rfl 27 _ (0, 0) _ TP.out Tryd.underlying27 rfl sizeDk ?_)
                | (refine wpList_store_row rfl 27 (.tmp 2) (.tmp 127) rfl q0 #[.slice (some ⟨b, 0, none⟩) m cS, .slice (some ⟨gg, 0, none⟩) (W.length + 1) cc, .int .i64 fu, .bool q2] rfl rfl 27 _ TQ.out ?s1x11 ?s2x11 ?s3x11 ?_))
              case s1x11 => simpa using sizeDk
              try case s2x11 => rfl
              case s3x11 => simp [Value.oneCell']
              refine bodyPost_ret (results_cell_row Tryd.results30 _ _ q0 27 #[.slice (some ⟨b, 0, none⟩) m cS, .slice (some ⟨gg, 0, none⟩) (W.length + 1) cc, .int .i64 fu, .bool q2] (0, 0) _ rfl (setRow_heap _ _ _ _ _ _ TQ.out) Tryd.underlying27 rfl sizeDk) rfl ?_
              exact AN.out
            by_cases t3 : t = 3
            · subst t3
              clear y2 y3 y0
              obtain ⟨j0, ji, jz0, jz1, jz2⟩ := info_parts Tryd.infoWr
              have GA := hid ((G11.out.alloc (.cells #[.int .u8 1] 5)).alloc (.cells #[.int .i64 0, .slice (some ⟨w11.heap.size, 0, none⟩) 1 1] 40))
              have RA := hid ((Ry.own (z := [1]) (World.ownsRow_lit (base := w11.heap.size) (e := 5) (size := 1) w11 #[.int .u8 1] 1 (Nat.le_refl _) (by unfold maxLen; omega) rfl) (fun i => by rcases i with _ | i <;> simp)).grown (World.grownBy_alloc (w11.alloc (.cells #[.int .u8 1] 5)) (.cells #[.int .i64 0, .slice (some ⟨w11.heap.size, 0, none⟩) 1 1] 40) none) (fun k hk => by cases hk))
              obtain ⟨xs, ys, r⟩ := GA.out.rows
              have HRw := hid r
              clear r
              go_wp2_with (at_builtin; refine wpList_append_lies _ rfl _ _ 25 rfl U.heap.size 40 j0 (.agg #[.int .i64 0, .slice none 0 0]) 2 32 Tryd.underlying25 ji jz0 jz1 jz2 rfl (by omega) (.slice aW W.length cW) W.length (cellsW W ys) rfl HRw.out.oW ⟨w11.heap.size + 1, 0, none⟩ 1 1 [.int .i64 0, .slice (some ⟨w11.heap.size, 0, none⟩) 1 1] rfl rfl (World.news_of_block (heap_new2 w11 _ _)) (by simp [Value.oneCell']) (by omega) (by unfold maxLen; omega) (by omega) GA.out.size _ rfl ?_)
              intro gg cc w6 ow6 gr6 _ _
              have HG6 := hid (GA.out.appW HRw.out RA.out ow6 gr6)
              have T6 := GA.out.midW HRw.out gr6
              have z1 : w6.cell? ⟨p, 1, none⟩ = some (.slice aW W.length cW) := by rw [cell_of_row _ _ _ _ _ _ T6]; rfl
              have z2 : w6.frozen? ⟨p, 1, none⟩ = false := frozen_of_row _ _ _ _ _ T6
              clear ow6 gr6 T6 y1 ji jz0 jz1 jz2
              have FA := fin_ans G0.out HQ.out Z0.out T0.out hgl HG6.out hS (by simp) (by omega) (by omega)
              have TQ := hid FA.1
              have AN := hid FA.2
              have TP := hid HG6.out.box
              clear FA 
              go_wp2_with (first
                | (refine wpList_load_row rfl 27 (.tmp 3) rfl p rfl 27 _ (0, 0) _ TP.out Tryd.underlying27 rfl sizeDk ?_)
                | (refine wpList_store_row rfl 27 (.tmp 2) (.tmp 127) rfl q0 #[.slice (some ⟨b, 0, none⟩) m cS, .slice (some ⟨gg, 0, none⟩) (W.length + 1) cc, .int .i64 fu, .bool q2] rfl rfl 27 _ TQ.out ?s1x12 ?s2x12 ?s3x12 ?_))
              case s1x12 => simpa using sizeDk
              try case s2x12 => rfl
              case s3x12 => simp [Value.oneCell']
              refine bodyPost_ret (results_cell_row Tryd.results30 _ _ q0 27 #[.slice (some ⟨b, 0, none⟩) m cS, .slice (some ⟨gg, 0, none⟩) (W.length + 1) cc, .int .i64 fu, .bool q2] (0, 0) _ rfl (setRow_heap _ _ _ _ _ _ TQ.out) Tryd.underlying27 rfl sizeDk) rfl ?_
              exact AN.out
            by_cases t4 : t = 4
            · subst t4
              have f0 := G11.out.froz 2
              have G12 := hid (G11.out.setF (-2))
              have FA := fin_ans G0.out HQ.out Z0.out T0.out hgl G12.out hS rfl (by omega) (by omega)
              have TQ := hid FA.1
              have AN := hid FA.2
              have TP := hid G12.out.box
              clear FA y0 y1 y3
              go_wp2_with (first
                | (refine wpList_load_row rfl 27 (.tmp 3) rfl p rfl 27 _ (0, 0) _ TP.out Tryd.underlying27 rfl sizeDk ?_)
                | (refine wpList_store_row rfl 27 (.tmp 2) (.tmp 127) rfl q0 #[.slice (some ⟨b, 0, none⟩) m cS, .slice aW W.length cW, .int .i64 (-2), .bool q2] rfl rfl 27 _ TQ.out ?s1x13 ?s2x13 ?s3x13 ?_))
              case s1x13 => simpa using sizeDk
              try case s2x13 => rfl
              case s3x13 => simp [Value.oneCell']
              refine bodyPost_ret (results_cell_row Tryd.results30 _ _ q0 27 #[.slice (some ⟨b, 0, none⟩) m cS, .slice aW W.length cW, .int .i64 (-2), .bool q2] (0, 0) _ rfl (setRow_heap _ _ _ _ _ _ TQ.out) Tryd.underlying27 rfl sizeDk) rfl ?_
              exact AN.out
            by_cases t5 : t = 5
            · subst t5
              clear y0 y1 y2 y3
              go_wp2_with fail
              go_loopw [] (fun wr => ∃ (W : List (Int × List Int)) (vW : Value), W.length ≤ 601 ∧ Hid (Gd U g p ad n cap zs wr (.slice (some ⟨b, 0, none⟩) m cS) vW S W fu q2)) (fun wr => 700 - lenOf ((wr.cell? ⟨p, 1, none⟩).getD undef))
              case atStart => exact ⟨W, _, by omega, G11⟩
              case round =>
                obtain ⟨W2, vW, hW2, hG⟩ := hrel
                clear G11
                obtain ⟨-, -, aW, cW, -, rfl⟩ := hG.out.forms
                have Y1 := hid hG.out.cell.2.1
                have y1d := hG.out.drew.cell.2.1
                go_wp2_with fail
                go_region_held3 (fun X => X.cell? ⟨p, 1, none⟩ = some (.slice aW W2.length cW)) (first | exact z1 | exact y1d)
                  (first
                  | (go_at_call_of 31 (Value.int IntKind.i64 2); refine (l1Below hG.out.drew.cur hn 2 (by omega) (by omega)).mono ?_; rintro e w12 ⟨y, rfl, hy0, hy1, c12, g12⟩; have G12 := hid (hG.out.drew.cursor c12 g12); have z1 := G12.out.cell.2.1))
                clear c12 g12 z1 y1d
                rw [wrapI (600 + y) (by omega) (by omega)]
                by_cases hco : (W2.length : Int) < 600 + y
                · obtain ⟨v0, d0, r0⟩ := G12.out.cellS (i := 0) hSm
                  have h6 := h64.out 0 hSm
                  obtain ⟨Z, hZ⟩ : ∃ Z, S.getD 0 [] = Z := ⟨_, rfl⟩
                  rw [hZ] at r0 h6
                  clear hZ
                  obtain ⟨av, cv, rfl, -⟩ := r0.row
                  rw [h6] at d0 r0
                  have H4 := hid (show (w12.drew.cell? ⟨p, 0, none⟩ = some (.slice (some ⟨b, 0, none⟩) m cS) ∧ w12.drew.cell? ⟨p, 1, none⟩ = some (.slice aW W2.length cW) ∧ w12.drew.cell? ⟨b, 0, none⟩ = some (.slice av 64 cv)) from ⟨G12.out.cell.1, G12.out.cell.2.1, d0⟩)
                  have D0A := hid (show (w12.alloc (.cells #[.int .i64 0, .slice av 64 cv] 40)).drew.cell? ⟨b, 0, none⟩ = some (.slice av 64 cv) from (World.grownBy_alloc w12 (.cells #[.int .i64 0, .slice av 64 cv] 40) none).cell d0 (by simp))
                  have GA := hid (G12.out.alloc (.cells #[.int .i64 0, .slice av 64 cv] 40)).drew
                  have RA := hid ((r0.grown (World.grownBy_alloc w12 (.cells #[.int .i64 0, .slice av 64 cv] 40) none) (fun k hk => by cases hk)).still (Still.drew _))
                  clear d0 r0
                  obtain ⟨j0, ji, jz0, jz1, jz2⟩ := info_parts Tryd.infoWr
                  go_wp2_with fail
                  refine region_K 10 (fun X => X.cell? ⟨p, 0, none⟩ = some (.slice (some ⟨b, 0, none⟩) m cS) ∧ X.cell? ⟨p, 1, none⟩ = some (.slice aW W2.length cW) ∧ X.cell? ⟨b, 0, none⟩ = some (.slice av 64 cv)) (by kernel_rfl) ?_ (fun hHeld => ?_)
                  · exact H4.out
                  refine anyK_take (i := 0) (v := ?v3056) rfl (by kernel_rfl) (by kernel_rfl) (by kernel_rfl) (by kernel_rfl) (fun _ _ _ h => h) (by rfl) hHeld ?hy3056 (some 99) (by rfl) ?rest3056
                  case hy3056 => (intro W' hSw; (try dsimp only at hSw); go_simp; (try with_reducible rfl))
                  try simp only [Act.put]
                  try simp only [List.setIfInBounds_toArray]
                  try simp only [List.set_cons_succ, List.set_cons_zero]
                  refine anyK_take (i := 1) (v := ?v3057) rfl (by kernel_rfl) (by kernel_rfl) (by kernel_rfl) (by kernel_rfl) (fun _ _ _ h => h) (by rfl) hHeld ?hy3057 (some 100) (by rfl) ?rest3057
                  case hy3057 => (intro W' hSw; (try dsimp only at hSw); go_simp; (try with_reducible rfl))
                  try simp only [Act.put]
                  try simp only [List.setIfInBounds_toArray]
                  try simp only [List.set_cons_succ, List.set_cons_zero]
                  refine anyK_take (i := 2) (v := ?v3058) rfl (by kernel_rfl) (by kernel_rfl) (by kernel_rfl) (by kernel_rfl) (fun _ _ _ h => h) (by rfl) hHeld ?hy3058 (some 101) (by rfl) ?rest3058
                  case hy3058 => (intro W' hSw; (try dsimp only at hSw); go_simp; (try with_reducible rfl))
                  try simp only [Act.put]
                  try simp only [List.setIfInBounds_toArray]
                  try simp only [List.set_cons_succ, List.set_cons_zero]
                  refine anyK_take (i := 3) (v := ?v3059) rfl (by kernel_rfl) (by kernel_rfl) (by kernel_rfl) (by kernel_rfl) (fun _ _ _ h => h) (by rfl) hHeld ?hy3059 (some 102) (by rfl) ?rest3059
                  case hy3059 => (intro W' hSw; (try dsimp only at hSw); go_simp; (try with_reducible rfl))
                  try simp only [Act.put]
                  try simp only [List.setIfInBounds_toArray]
                  try simp only [List.set_cons_succ, List.set_cons_zero]
                  refine anyK_take (i := 4) (v := ?v3060) rfl (by kernel_rfl) (by kernel_rfl) (by kernel_rfl) (by kernel_rfl) (fun _ _ _ h => h) (by rfl) hHeld ?hy3060 (some 103) (by rfl) ?rest3060
                  case hy3060 => (intro W' hSw; (try dsimp only at hSw); go_simp; (try with_reducible rfl))
                  try simp only [Act.put]
                  try simp only [List.setIfInBounds_toArray]
                  try simp only [List.set_cons_succ, List.set_cons_zero]
                  refine anyK_take (i := 5) (v := ?v3061) rfl (by kernel_rfl) (by kernel_rfl) (by kernel_rfl) (by kernel_rfl) (fun _ _ _ h => h) (by rfl) hHeld ?hy3061 (some 104) (by rfl) ?rest3061
                  case hy3061 => (intro W' hSw; (try dsimp only at hSw); go_simp; (try with_reducible rfl))
                  try simp only [Act.put]
                  try simp only [List.setIfInBounds_toArray]
                  try simp only [List.set_cons_succ, List.set_cons_zero]
                  refine anyK_take (i := 6) (v := ?v3062) rfl (by kernel_rfl) (by kernel_rfl) (by kernel_rfl) (by kernel_rfl) (fun _ _ _ h => h) (by rfl) hHeld ?hy3062 (some 105) (by rfl) ?rest3062
                  case hy3062 => (intro W' hSw; (try dsimp only at hSw); go_simp; (try with_reducible rfl))
                  try simp only [Act.put]
                  try simp only [List.setIfInBounds_toArray]
                  try simp only [List.set_cons_succ, List.set_cons_zero]
                  refine anyK_step (i := 7) (by kernel_rfl) rfl (fun K hK => ?_)
                  go_simp
                  refine hK.out _ _ ?_ (fun hH2 => ?_)
                  · exact ⟨GA.out.cell.1, GA.out.cell.2.1, D0A.out⟩
                  clear hK K hHeld
                  have hHeld := hH2
                  clear hH2
                  try simp only [Act.put]
                  try simp only [List.setIfInBounds_toArray]
                  try simp only [List.set_cons_succ, List.set_cons_zero]
                  obtain ⟨xs, ys, r⟩ := GA.out.rows
                  have HRw := hid r
                  clear r
                  refine anyK_step (i := 8) (by kernel_rfl) rfl (fun K hK => ?_)
                  refine step_append_lies _ (by rfl) _ _ _ (by rfl) U.heap.size 40 j0 (.agg #[.int .i64 0, .slice none 0 0]) 2 32 Tryd.underlying25 ji jz0 jz1 jz2 rfl (by omega) (.slice aW W2.length cW) W2.length (cellsW W2 ys) (by rfl) HRw.out.oW ⟨w12.heap.size, 0, none⟩ 1 1 [.int .i64 0, .slice av 64 cv] (by rfl) rfl (World.news_of_block (heap_alloc_new w12 _)) (by simp [Value.oneCell']) (by omega) (by unfold maxLen; omega) (by omega) GA.out.size _ rfl ?_
                  intro gg cc w6 ow6 gr6 _ _
                  have HG6 := hid (GA.out.appW HRw.out RA.out ow6 gr6)
                  have T6 := GA.out.midW HRw.out gr6
                  have z0 : w6.cell? ⟨p, 0, none⟩ = some (.slice (some ⟨b, 0, none⟩) m cS) := by rw [cell_of_row _ _ _ _ _ _ T6]; rfl
                  have z1 : w6.cell? ⟨p, 1, none⟩ = some (.slice aW W2.length cW) := by rw [cell_of_row _ _ _ _ _ _ T6]; rfl
                  have z2 : w6.frozen? ⟨p, 1, none⟩ = false := frozen_of_row _ _ _ _ _ T6
                  have z3 := (HRw.out.midW0 gr6 0).trans D0A.out
                  clear ow6 gr6 T6
                  refine hK.out _ _ ?_ (fun hH2 => ?_)
                  · exact ⟨z0, z1, z3⟩
                  clear hK K hHeld
                  have hHeld := hH2
                  clear hH2
                  try simp only [Act.put]
                  try simp only [List.setIfInBounds_toArray]
                  try simp only [List.set_cons_succ, List.set_cons_zero]
                  refine anyK_step (i := 9) (by kernel_rfl) rfl (fun K hK => ?_)
                  go_simp
                  refine hK.out _ _ ?_ (fun hH2 => ?_)
                  · exact ⟨z0, z1, z3⟩
                  clear hK K hHeld
                  have hHeld := hH2
                  clear hH2
                  try simp only [Act.put]
                  try simp only [List.setIfInBounds_toArray]
                  try simp only [List.set_cons_succ, List.set_cons_zero]
                  refine anyK_last (by kernel_rfl) rfl (fun K hK => ?_)
                  go_simp
                  refine hK.out _ _ ?_
                  clear hK K hHeld
                  refine anyK_done (by kernel_rfl) ?_ _
                  clear z0 z1 z2 z3 ji jz0 jz1 jz2
                  go_wp2_with fail
                  go_roundw
                  case rel => exact ⟨W2 ++ [(0, Z)], _, by simp; omega, HG6⟩
                  case measure => rw [HG6.out.cell.2.1, Y1.out]; simp [lenOf]; omega
                · clear Y1 hG
                  have FA := fin_ans G0.out HQ.out Z0.out T0.out hgl G12.out hS rfl (by omega) (by omega)
                  have TQ := hid FA.1
                  have AN := hid FA.2
                  have TP := hid G12.out.box
                  clear FA 
                  go_wp2_with (first
                    | (refine wpList_load_row rfl 27 (.tmp 3) rfl p rfl 27 _ (0, 0) _ TP.out Tryd.underlying27 rfl sizeDk ?_)
                    | (refine wpList_store_row rfl 27 (.tmp 2) (.tmp 127) rfl q0 #[.slice (some ⟨b, 0, none⟩) m cS, .slice aW W2.length cW, .int .i64 fu, .bool q2] rfl rfl 27 _ TQ.out ?s1x14 ?s2x14 ?s3x14 ?_))
                  case s1x14 => simpa using sizeDk
                  try case s2x14 => rfl
                  case s3x14 => simp [Value.oneCell']
                  refine bodyPost_ret (results_cell_row Tryd.results30 _ _ q0 27 #[.slice (some ⟨b, 0, none⟩) m cS, .slice aW W2.length cW, .int .i64 fu, .bool q2] (0, 0) _ rfl (setRow_heap _ _ _ _ _ _ TQ.out) Tryd.underlying27 rfl sizeDk) rfl ?_
                  exact AN.out
            by_cases t6 : t = 6
            · subst t6
              clear y0 y1 y2 y3
              go_wp2_with fail
              go_loopw [] (fun wr => ∃ (S2 : List (List Int)) (b2 c2 : Nat), 0 < S2.length ∧ S2.length ≤ 513 ∧ Hid ((S2.getD 0 []).length = 64) ∧ Hid (Gd U g p ad n cap zs wr (.slice (some ⟨b2, 0, none⟩) S2.length c2) (.slice aW W.length cW) S2 W fu q2)) (fun wr => 700 - lenOf ((wr.cell? ⟨p, 0, none⟩).getD undef))
              case atStart => exact ⟨S, b, cS, hSm, by omega, hid (h64.out 0 hSm), by rw [hS]; exact G11⟩
              case round =>
                obtain ⟨S2, b2, c2, hS0, hS1, h6h, hG⟩ := hrel
                clear G11
                have Y1 := hid hG.out.cell.1
                have y1d := hG.out.drew.cell.1
                go_wp2_with fail
                go_region_held3 (fun X => X.cell? ⟨p, 0, none⟩ = some (.slice (some ⟨b2, 0, none⟩) S2.length c2)) (first | exact z1 | exact y1d)
                  (first
                  | (go_at_call_of 31 (Value.int IntKind.i64 2); refine (l1Below hG.out.drew.cur hn 2 (by omega) (by omega)).mono ?_; rintro e w12 ⟨y, rfl, hy0, hy1, c12, g12⟩; have G12 := hid (hG.out.drew.cursor c12 g12); have z1 := G12.out.cell.1))
                clear c12 g12 z1 y1d
                rw [wrapI (512 + y) (by omega) (by omega)]
                by_cases hco : (S2.length : Int) < 512 + y
                · obtain ⟨v0, d0, r0⟩ := G12.out.cellS (i := 0) hS0
                  have h6 := h6h.out
                  obtain ⟨Z, hZ⟩ : ∃ Z, S2.getD 0 [] = Z := ⟨_, rfl⟩
                  have HZ := hid hZ
                  rw [hZ] at r0 h6
                  clear hZ
                  obtain ⟨av, cv, rfl, -⟩ := r0.row
                  rw [h6] at d0 r0
                  have H6 := hid h6
                  have H4 := hid (show w12.drew.cell? ⟨p, 0, none⟩ = some (.slice (some ⟨b2, 0, none⟩) S2.length c2) from G12.out.cell.1)
                  have d0d : w12.drew.cell? ⟨b2, 0, none⟩ = some (.slice av 64 cv) := d0
                  have hS0' : (0 : Int) < (S2.length : Int) := by omega
                  have GA := hid (G12.out.alloc (.cells #[.slice av 64 cv] 22)).drew
                  have RA := hid ((r0.grown (World.grownBy_alloc w12 (.cells #[.slice av 64 cv] 22) none) (fun k hk => by cases hk)).still (Still.drew _))
                  clear d0 r0 h6
                  obtain ⟨j0, ji, jz0, jz1, jz2⟩ := info_parts Tryd.info22
                  go_wp2_with fail
                  refine region_K 9 (fun X => X.cell? ⟨p, 0, none⟩ = some (.slice (some ⟨b2, 0, none⟩) S2.length c2)) (by kernel_rfl) ?_ (fun hHeld => ?_)
                  · exact H4.out
                  refine anyK_take (i := 0) (v := ?v3063) rfl (by kernel_rfl) (by kernel_rfl) (by kernel_rfl) (by kernel_rfl) (fun _ _ _ h => h) (by rfl) hHeld ?hy3063 (some 118) (by rfl) ?rest3063
                  case hy3063 => (intro W' hSw; (try dsimp only at hSw); go_simp; (try with_reducible rfl))
                  try simp only [Act.put]
                  try simp only [List.setIfInBounds_toArray]
                  try simp only [List.set_cons_succ, List.set_cons_zero]
                  refine anyK_take (i := 1) (v := ?v3064) rfl (by kernel_rfl) (by kernel_rfl) (by kernel_rfl) (by kernel_rfl) (fun _ _ _ h => h) (by rfl) hHeld ?hy3064 (some 119) (by rfl) ?rest3064
                  case hy3064 => (intro W' hSw; (try dsimp only at hSw); go_simp; (try with_reducible rfl))
                  try simp only [Act.put]
                  try simp only [List.setIfInBounds_toArray]
                  try simp only [List.set_cons_succ, List.set_cons_zero]
                  refine anyK_take (i := 2) (v := ?v3065) rfl (by kernel_rfl) (by kernel_rfl) (by kernel_rfl) (by kernel_rfl) (fun _ _ _ h => h) (by rfl) hHeld ?hy3065 (some 120) (by rfl) ?rest3065
                  case hy3065 => (intro W' hSw; (try dsimp only at hSw); go_simp; (try with_reducible rfl))
                  try simp only [Act.put]
                  try simp only [List.setIfInBounds_toArray]
                  try simp only [List.set_cons_succ, List.set_cons_zero]
                  refine anyK_take (i := 3) (v := ?v3066) rfl (by kernel_rfl) (by kernel_rfl) (by kernel_rfl) (by kernel_rfl) (fun _ _ _ h => h) (by rfl) hHeld ?hy3066 (some 121) (by rfl) ?rest3066
                  case hy3066 => (intro W' hSw; (try dsimp only at hSw); go_simp; (try with_reducible rfl))
                  try simp only [Act.put]
                  try simp only [List.setIfInBounds_toArray]
                  try simp only [List.set_cons_succ, List.set_cons_zero]
                  refine anyK_take (i := 4) (v := ?v3067) rfl (by kernel_rfl) (by kernel_rfl) (by kernel_rfl) (by kernel_rfl) (fun _ _ _ h => h) (by rfl) hHeld ?hy3067 (some 122) (by rfl) ?rest3067
                  case hy3067 => (intro W' hSw; (try dsimp only at hSw); go_simp; (try with_reducible rfl))
                  try simp only [Act.put]
                  try simp only [List.setIfInBounds_toArray]
                  try simp only [List.set_cons_succ, List.set_cons_zero]
                  refine anyK_step (i := 5) (by kernel_rfl) rfl (fun K hK => ?_)
                  go_simp
                  refine hK.out _ _ ?_ (fun hH2 => ?_)
                  · exact H4.out
                  clear hK K hHeld
                  have hHeld := hH2
                  clear hH2
                  try simp only [Act.put]
                  try simp only [List.setIfInBounds_toArray]
                  try simp only [List.set_cons_succ, List.set_cons_zero]
                  refine anyK_step (i := 6) (by kernel_rfl) rfl (fun K hK => ?_)
                  go_simp
                  refine hK.out _ _ ?_ (fun hH2 => ?_)
                  · exact GA.out.cell.1
                  clear hK K hHeld
                  have hHeld := hH2
                  clear hH2
                  try simp only [Act.put]
                  try simp only [List.setIfInBounds_toArray]
                  try simp only [List.set_cons_succ, List.set_cons_zero]
                  obtain ⟨xs, ys, r⟩ := GA.out.rows
                  have HRw := hid r
                  clear r d0d
                  refine anyK_step (i := 7) (by kernel_rfl) rfl (fun K hK => ?_)
                  refine step_append_lies _ (by rfl) _ _ _ (by rfl) U.heap.size 22 j0 (.slice none 0 0) 1 24 Tryd.underlying24 ji jz0 jz1 jz2 rfl (by omega) (.slice (some ⟨b2, 0, none⟩) S2.length c2) S2.length xs (by rfl) HRw.out.oS ⟨w12.heap.size, 0, none⟩ 1 1 [.slice av 64 cv] (by rfl) rfl (World.news_of_block (heap_alloc_new w12 _)) (by simp [Value.oneCell']) (by omega) (by unfold maxLen; omega) (by omega) GA.out.size _ rfl ?_
                  intro gg cc w6 ow6 gr6 _ _
                  have HG6 := hid (GA.out.appS HRw.out RA.out ow6 gr6)
                  have T6 := GA.out.midS HRw.out gr6
                  have z0 : w6.cell? ⟨p, 0, none⟩ = some (.slice (some ⟨b2, 0, none⟩) S2.length c2) := by rw [cell_of_row _ _ _ _ _ _ T6]; rfl
                  have z2 : w6.frozen? ⟨p, 0, none⟩ = false := frozen_of_row _ _ _ _ _ T6
                  clear ow6 gr6 T6
                  refine hK.out _ _ ?_ (fun hH2 => ?_)
                  · exact z0
                  clear hK K hHeld
                  have hHeld := hH2
                  clear hH2
                  try simp only [Act.put]
                  try simp only [List.setIfInBounds_toArray]
                  try simp only [List.set_cons_succ, List.set_cons_zero]
                  refine anyK_step (i := 8) (by kernel_rfl) rfl (fun K hK => ?_)
                  go_simp
                  refine hK.out _ _ ?_ (fun hH2 => ?_)
                  · exact z0
                  clear hK K hHeld
                  have hHeld := hH2
                  clear hH2
                  try simp only [Act.put]
                  try simp only [List.setIfInBounds_toArray]
                  try simp only [List.set_cons_succ, List.set_cons_zero]
                  refine anyK_last (by kernel_rfl) rfl (fun K hK => ?_)
                  go_simp
                  refine hK.out _ _ ?_
                  clear hK K hHeld
                  refine anyK_done (by kernel_rfl) ?_ _
                  clear z0 z2 ji jz0 jz1 jz2
                  go_wp2_with fail
                  go_roundw
                  case rel => exact ⟨S2 ++ [Z], gg, cc, by simp, by simp; omega, hid (by rw [getD_app, if_pos hS0, HZ.out]; exact H6.out), by rw [List.length_append]; exact HG6⟩
                  case measure => rw [HG6.out.cell.1, Y1.out]; simp [lenOf]; omega
                · clear Y1 hG
                  have FA := fin_ans G0.out HQ.out Z0.out T0.out hgl G12.out rfl rfl (by omega) (by omega)
                  have TQ := hid FA.1
                  have AN := hid FA.2
                  have TP := hid G12.out.box
                  clear FA 
                  go_wp2_with (first
                    | (refine wpList_load_row rfl 27 (.tmp 3) rfl p rfl 27 _ (0, 0) _ TP.out Tryd.underlying27 rfl sizeDk ?_)
                    | (refine wpList_store_row rfl 27 (.tmp 2) (.tmp 127) rfl q0 #[.slice (some ⟨b2, 0, none⟩) S2.length c2, .slice aW W.length cW, .int .i64 fu, .bool q2] rfl rfl 27 _ TQ.out ?s1x15 ?s2x15 ?s3x15 ?_))
                  case s1x15 => simpa using sizeDk
                  try case s2x15 => rfl
                  case s3x15 => simp [Value.oneCell']
                  refine bodyPost_ret (results_cell_row Tryd.results30 _ _ q0 27 #[.slice (some ⟨b2, 0, none⟩) S2.length c2, .slice aW W.length cW, .int .i64 fu, .bool q2] (0, 0) _ rfl (setRow_heap _ _ _ _ _ _ TQ.out) Tryd.underlying27 rfl sizeDk) rfl ?_
                  exact AN.out
            have FA := fin_ans G0.out HQ.out Z0.out T0.out hgl G11.out hS rfl (by omega) (by omega)
            have TQ := hid FA.1
            have AN := hid FA.2
            have TP := hid G11.out.box
            clear FA y0 y1 y2 y3
            go_wp2_with (first
              | (refine wpList_load_row rfl 27 (.tmp 3) rfl p rfl 27 _ (0, 0) _ TP.out Tryd.underlying27 rfl sizeDk ?_)
              | (refine wpList_store_row rfl 27 (.tmp 2) (.tmp 127) rfl q0 #[.slice (some ⟨b, 0, none⟩) m cS, .slice aW W.length cW, .int .i64 fu, .bool q2] rfl rfl 27 _ TQ.out ?s1x16 ?s2x16 ?s3x16 ?_))
            case s1x16 => simpa using sizeDk
            try case s2x16 => rfl
            case s3x16 => simp [Value.oneCell']
            refine bodyPost_ret (results_cell_row Tryd.results30 _ _ q0 27 #[.slice (some ⟨b, 0, none⟩) m cS, .slice aW W.length cW, .int .i64 fu, .bool q2] (0, 0) _ rfl (setRow_heap _ _ _ _ _ _ TQ.out) Tryd.underlying27 rfl sizeDk) rfl ?_
            exact AN.out
end Go.Proofs.YtnnnehjlegjejaaDoor
