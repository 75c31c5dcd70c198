/- The contracts of the laws' toSnap, szSnap, eqSnap, toSnapS, szSnapS, eqSnapS. Conditions: lists of at most 2^21 numbers together. -/
import Derived.Test.YtemhmlikfiknlaaNm9
import Derived.Test.YtemhmlikfiknlaaAl
import Derived.Test.YtemhmlikfiknlaaJt
import Derived.Laws.Tables
import Derived.Deep.RegionHeld3
namespace Go.Proofs.Ytemhmlikfiknlaa
open Go.RowKit
set_option maxRecDepth 100000

theorem Try.infoSn : (Try.prog.info? 32).map (fun i => (i.zero, i.size, i.bytes)) = some (some (.agg #[.int .i64 0, .slice none 0 0]), 2, 32) := by kernel_rfl
theorem sizeSn : (Try.prog.info? 32).map (·.size) = some 2 := by kernel_rfl
theorem ReadsN.own {w : World} {lo lo' hi : Nat} {vW : Value} {ws : List (Int × List Int)} {ys : List Value} (hy : ys.length = ws.length) (o : w.ownsRow lo 32 2 vW ws.length (cellsN ws ys)) (hB : BandsI w lo' hi ys (ws.map (·.2))) : ∃ a c, vW = .slice a ws.length c ∧ ReadsN w a ws := by
  rcases o.2 with ⟨rfl, h0⟩ | ⟨g, cap, cur, rfl, _⟩
  · exact ⟨none, 0, by rw [h0], ⟨.inl h0⟩⟩
  · refine ⟨_, cap, rfl, ⟨.inr ⟨g, 0, rfl, fun i hi => ?_⟩⟩⟩
    have hc := cellsN_at ws ys i hy hi
    refine ⟨?_, ys.getD i nilS, ?_, ?_⟩
    · rw [Nat.zero_add, o.cellAt (i * 2) (by omega)]; exact hc.1
    · rw [Nat.zero_add, o.cellAt (i * 2 + 1) (by omega)]; exact hc.2
    · have := hB.row i
      rw [map2_getD9] at this
      exact this
def lft9 (left : Int) (n : Nat) : Int := if left < n then -1 else left - n
theorem take_snoc9 {α : Type} (xs : List α) (k : Nat) (d : α) (h : k < xs.length) : xs.take (k + 1) = xs.take k ++ [xs.getD k d] := by
  rw [List.take_add_one, List.getElem?_eq_getElem h, Option.toList_some]
  simp [List.getD, h]
theorem szIntS (ad : Option Addr) (n cap : Nat) (left : Int) (hn : n ≤ 9223372036854775807) (h0 : 0 ≤ left) (h1 : left ≤ 1048576) (w : World) :
    Calls Try.prog 42 #[.slice ad n cap, .int .i64 left] w fun e w' => e = .returned (.int .i64 (lft9 left n)) ∧ w' = w := by
  unfold lft9
  have a1 : (0 : Int) ≤ (n : Int) := by omega
  have a2 : (n : Int) ≤ 9223372036854775807 := by omega
  by_cases h : left < n
  · rw [if_pos h]
    have q : left - (n : Int) < 0 := by omega
    go_enter Try.func42, Try.ntmps42
    go_wp2
    go_ret
    exact ⟨rfl, rfl⟩
  · rw [if_neg h]
    have q : ¬ left - (n : Int) < 0 := by omega
    go_enter Try.func42, Try.ntmps42
    go_wp2
    go_ret
    exact ⟨rfl, rfl⟩
set_option maxRecDepth 100000 in
theorem szSnap (A : Int) (ad : Option Addr) (n cap : Nat) (left : Int) (hn : n ≤ 9223372036854775807) (h0 : 0 ≤ left) (h1 : left ≤ 1048576) (w : World) :
    Calls Try.prog 18 #[.agg #[.int .i64 A, .slice ad n cap], .int .i64 left] w fun e w' => e = .returned (.int .i64 (lft9 left n)) ∧ Below w.heap.size w w' := by
  have HA := hid (show Below w.heap.size w (w.alloc (.cells #[.int .i64 A, .slice ad n cap] 36)) from (Below.refl _ _).alloc (Nat.le_refl _) _)
  have hz := szIntS ad n cap left hn h0 h1
  by_cases h : left < n
  · rw [show lft9 left n = -1 by unfold lft9; rw [if_pos h]] at hz ⊢
    have HZ := hid hz
    clear hz
    go_enter Try.func18, Try.ntmps18
    go_wp2_with fail
    refine (HZ.out _).mono ?_
    rintro e w1 ⟨rfl, rfl⟩
    go_wp2_with fail
    go_ret
    exact ⟨rfl, HA.out⟩
  · rw [show lft9 left n = left - n by unfold lft9; rw [if_neg h]] at hz ⊢
    have q : ¬ left - (n : Int) < 0 := by omega
    have HZ := hid hz
    clear hz
    go_enter Try.func18, Try.ntmps18
    go_wp2_with fail
    refine (HZ.out _).mono ?_
    rintro e w1 ⟨rfl, rfl⟩
    go_wp2_with fail
    go_ret
    exact ⟨rfl, HA.out⟩
set_option maxRecDepth 100000 in
set_option maxHeartbeats 1600000 in
theorem toSnap (A : Int) {ad : Option Addr} {n : Nat} (cap : Nat) {zs : List Int} {w : World} (h : ReadsI w ad n zs) (hn : n ≤ 2097152) :
    Calls Try.prog 20 #[.agg #[.int .i64 A, .slice ad n cap]] w fun e w' => ∃ g, e = .returned (.agg #[.int .i64 A, .slice (some ⟨g, 0, none⟩) n n]) ∧ w'.ownsRow w.heap.size 3 1 (.slice (some ⟨g, 0, none⟩) n n) n (ins zs) ∧ Below w.heap.size w w' := by
  go_enter Try.func20, Try.ntmps20
  go_wp2_with fail
  obtain ⟨z, R1, R2, bW⟩ := three w (.cells #[.int .i64 A, .slice ad n cap] 36) (.cells #[.int .i64 0, .slice none 0 0] 32) (.cells #[.int .i64 A, .slice none 0 0] 32)
  have zW := hid z
  clear z
  generalize ((w.alloc (.cells #[.int .i64 A, .slice ad n cap] 36)).alloc (.cells #[.int .i64 0, .slice none 0 0] 32)).alloc (.cells #[.int .i64 A, .slice none 0 0] 32) = W at *
  refine (toIntS_any cap (h.below bW (Nat.le_refl _)) hn).mono ?_
  rintro e W1 ⟨rfl, o1, b1⟩
  have hW := zW.out
  have S1 : W1.heap[w.heap.size + 1]? = _ := (b1.block _ (by omega)).trans R1
  have S2 : W1.heap[w.heap.size + 1 + 1]? = _ := (b1.block _ (by omega)).trans R2
  have B1 := bW.trans (b1.mono bW.size)
  have O1 := hid o1
  have HW := hid hW
  clear o1 hW zW R1 R2 bW b1
  have c3 : W1.cell? ⟨w.heap.size + 1 + 1, 1, none⟩ = some (.slice none 0 0) := by rw [cell_of_row _ _ _ _ _ _ S2]; rfl
  have fz : W1.frozen? ⟨w.heap.size + 1 + 1, 1, none⟩ = false := frozen_of_row _ _ _ _ _ S2
  have T2 := hid (heap_setCell_same W1 (w.heap.size + 1 + 1) 1 _ 32 (.slice (some ⟨W.heap.size, 0, none⟩) n n) S2)
  have T1 := hid ((heap_setCell_other W1 ⟨w.heap.size + 1 + 1, 1, none⟩ (w.heap.size + 1) (.slice (some ⟨W.heap.size, 0, none⟩) n n) (by simp)).trans S1)
  have BC := hid (B1.setCell (p := ⟨w.heap.size + 1 + 1, 1, none⟩) (by simp; omega) (.slice (some ⟨W.heap.size, 0, none⟩) n n))
  clear S1 S2
  go_wp2_with (first
    | (refine wpList_load_row rfl 32 (.tmp 3) rfl (w.heap.size + 1 + 1) rfl 32 _ (0, 0) _ T2.out Try.underlying32 rfl sizeSn ?_)
    | (refine wpList_store_row rfl 32 (.tmp 2) (.tmp 11) rfl (w.heap.size + 1) #[.int .i64 A, .slice (some ⟨W.heap.size, 0, none⟩) n n] rfl rfl 32 _ T1.out ?s1 ?s2 ?s3 ?_))
  case s1 => exact sizeSn
  case s2 => rfl
  case s3 => simp [Value.oneCell']
  have hW := HW.out
  refine bodyPost_ret (results_cell_row Try.results20 _ _ (w.heap.size + 1) 32 #[.int .i64 A, .slice (some ⟨W.heap.size, 0, none⟩) n n] (0, 0) _ rfl (setRow_heap _ _ _ _ _ _ T1.out) Try.underlying32 rfl sizeSn) rfl ⟨W.heap.size, rfl, owns_base (owns_at O1.out fun k hk => ?_) (by omega), below_setRow BC.out (by omega) _⟩
  rw [setRow_other _ _ _ _ (by omega), heap_setCell_other _ _ _ _ (by simp; omega)]
set_option maxRecDepth 100000 in
set_option maxHeartbeats 1600000 in
theorem eqSnap (A : Int) {ad ad' : Option Addr} {n : Nat} (cap cap' : Nat) {zs : List Int} {w : World} (h : ReadsI w ad n zs) (h' : ReadsI w ad' n zs) (hn : n ≤ 2097152) :
    Calls Try.prog 22 #[.agg #[.int .i64 A, .slice ad n cap], .agg #[.int .i64 A, .slice ad' n cap']] w fun e w' => e = .returned (.bool true) ∧ Below w.heap.size w w' := by
  have hB := two w (.cells #[.int .i64 A, .slice ad n cap] 32) (.cells #[.int .i64 A, .slice ad' n cap'] 32)
  have H1 := hid (h.below hB (Nat.le_refl _))
  have H2 := hid (h'.below hB (Nat.le_refl _))
  have HB := hid hB
  clear hB h h'
  go_enter Try.func22, Try.ntmps22
  go_wp2_with fail
  refine (eqIntS_any cap cap' H1.out H2.out hn).mono ?_
  rintro e w2 ⟨rfl, st⟩
  go_wp2_with fail
  go_ret
  exact ⟨rfl, HB.out.trans (st.below _)⟩
set_option maxRecDepth 100000 in
set_option maxHeartbeats 1600000 in
theorem toSnapS {ad : Option Addr} {n : Nat} (cap : Nat) {ws : List (Int × List Int)} {w : World} (h : ReadsN w ad ws) (hl : ws.length = n) (hn : n ≤ 2097152) (hb : ∀ i, (ws.getD i sn0).2.length ≤ 2097152) :
    Calls Try.prog 28 #[.slice ad n cap] w fun e w' => ∃ ys, e = .returned (.slice (some ⟨w.heap.size, 0, none⟩) n n) ∧ ys.length = n ∧ w'.ownsRow w.heap.size 32 2 (.slice (some ⟨w.heap.size, 0, none⟩) n n) n (cellsN ws ys) ∧ BandsI w' w.heap.size w'.heap.size ys (ws.map (·.2)) ∧ Below w.heap.size w w' := by
  obtain ⟨i0, hi, hz0, hz1, hz2⟩ := info_parts Try.infoSn
  go_enter Try.func28, Try.ntmps28
  go_wp2_with (at_make; refine wpList_make_full _ rfl _ _ 24 rfl w.heap.size 32 i0 (.agg #[.int .i64 0, .slice none 0 0]) 2 Try.underlying24 hi hz0 hz1 _ _ _ _ n rfl rfl (by omega) (by omega) ?b2 ?b3 (Nat.le_refl _) ?_)
  case b2 => rw [hz2]; omega
  case b3 => unfold maxLen; omega
  intro sn0' hown0 hgrow0
  go_wp2
  go_loopw [4] (fun i wr => ∃ (k : Nat) (ys : List Value), k ≤ n ∧ i = .int .i64 k ∧ ys.length = k ∧ Hid (wr.ownsRow w.heap.size 32 2 (.slice (some ⟨w.heap.size, 0, none⟩) n n) n (cellsN (ws.take k ++ List.replicate (n - k) sn0) (ys ++ List.replicate (n - k) nilS))) ∧ Hid (BandsI wr w.heap.size wr.heap.size ys ((ws.take k).map (·.2))) ∧ Hid (Below w.heap.size w wr))
    (fun i _ => n - (intOf i).toNat)
  case atStart =>
    refine ⟨0, [], Nat.zero_le _, rfl, rfl, hid ?_, hid (by rw [List.take_zero]; exact BandsI.nil _ _ _), hid ((Below.refl _ _).grown hgrow0 (Nat.le_refl _) (fun k h => by cases h))⟩
    rw [made2n, ← nilS, ← zeroN9] at hown0
    simpa using hown0
  case round =>
    obtain ⟨k, ys, hk, rfl, hx, hown, hB, hnx⟩ := hrel
    by_cases hlt : k < n
    · have hlt' : (k : Int) < (n : Int) := by omega
      rcases h.cells with h0 | ⟨b, off, rfl, hc⟩
      · omega
      obtain ⟨hca0, v, hcx0, a, c, rfl, hr0, hnil, hmx⟩ := hc k (by omega)
      have hbl := World.block_lt_of_cell? w _ hcx0
      have hcx : wr.cell? ⟨b, off + k * 2 + 1, none⟩ = some (.slice a (ws.getD k sn0).2.length c) := (hnx.out.cell (by exact hbl)).trans hcx0
      have hca : wr.cell? ⟨b, off + k * 2, none⟩ = some (.int .i64 (ws.getD k sn0).1) := (hnx.out.cell (by exact hbl)).trans hca0
      have hr := hid (hr0.below hnx.out (Nat.le_refl _))
      have hlen := hb k
      have HT := hid (take_snoc9 ws k sn0 (by omega))
      have Hbd := hid hr0.bd
      generalize ws.getD k sn0 = p at *
      obtain ⟨A, zs⟩ := p
      obtain ⟨m, hm⟩ : ∃ m, zs.length = m := ⟨_, rfl⟩
      simp only at hcx hca hlen hr
      rw [hm] at hcx hlen hr
      have HM := hid hm
      clear hc hcx0 hca0 hr0 hnil hmx hm hown0 hgrow0
      go_wp2_with fail
      refine (toSnap A c hr.out (by omega)).mono ?_
      rintro e w1 ⟨g, rfl, o, b1⟩
      have hown1 := owns_below b1 (by have := hnx.out.size; omega) hown.out
      have hz0 : (cellsN (ws.take k ++ List.replicate (n - k) sn0) (ys ++ List.replicate (n - k) nilS)).length = n * 2 := by
        rw [cellsN_length _ _ (by simp; omega)]; simp; omega
      have hcy : ∃ v, w1.cell? ⟨w.heap.size, k * 2, none⟩ = some v := by
        rw [hown1.cellAt (k * 2) (by omega)]
        exact ⟨_, List.getElem?_eq_getElem (by omega)⟩
      have hcz : ∃ v, w1.cell? ⟨w.heap.size, k * 2 + 1, none⟩ = some v := by
        rw [hown1.cellAt (k * 2 + 1) (by omega)]
        exact ⟨_, List.getElem?_eq_getElem (by omega)⟩
      obtain ⟨v, hcy⟩ := hcy
      obtain ⟨v', hcz⟩ := hcz
      have hfr : w1.frozen? ⟨w.heap.size, k * 2, none⟩ = false := hown1.frozenAt (k * 2)
      have hfz : w1.frozen? ⟨w.heap.size, k * 2 + 1, none⟩ = false := hown1.frozenAt (k * 2 + 1)
      have R := hown1.stored (k * 2) (.int .i64 A)
      have R' := R.1.stored (k * 2 + 1) (.slice (some ⟨g, 0, none⟩) m m)
      rw [cellsN_set2 _ _ k (A, zs) _ (by simp; omega) (by simp; omega), set_rep9 _ k n sn0 _ (by simp; omega) hlt, set_rep9 ys k n nilS _ hx hlt, ← HT.out] at R'
      have hB1 : BandsI w1 w.heap.size w1.heap.size (ys ++ [.slice (some ⟨g, 0, none⟩) m m]) ((ws.take (k + 1)).map (·.2)) := by
        rw [HT.out, List.map_append]
        exact (hB.out.agree (Agree.below b1 (Nat.le_refl _))).snoc (by have := hnx.out.size; omega) b1.size (by rw [HM.out]; exact o) Hbd.out (Nat.le_refl _)
      have hB2 := hB1.beside R.2 (fun i => owns_ne (hB1.own i) hown1 (by decide))
      have hB3 := hid (hB2.beside R'.2 (fun i => owns_ne (hB2.own i) R.1 (by decide)))
      have R1 := hid R'.1
      have B2 := hid (((hnx.out.trans (b1.mono hnx.out.size)).setCell (p := ⟨w.heap.size, k * 2, none⟩) (Nat.le_refl _) (.int .i64 A)).setCell (p := ⟨w.heap.size, k * 2 + 1, none⟩) (Nat.le_refl _) (.slice (some ⟨g, 0, none⟩) m m))
      clear R R' hB1 hB2 hown1 o b1 hz0
      go_wp2_with fail
      go_roundw
      case rel => exact ⟨k + 1, ys ++ [.slice (some ⟨g, 0, none⟩) m m], by omega, by go_num, by simp [hx], hid R1.out, hid (by simpa using hB3.out), hid B2.out⟩
      case measure => simp [intOf]; omega
    · go_wp2
      go_ret
      have hkn : k = n := by omega
      subst hkn
      refine ⟨ys, rfl, hx, ?_, ?_, hnx.out⟩
      · have := hown.out
        rw [List.take_of_length_le (by omega)] at this
        simpa using this
      · have := hB.out
        rw [List.take_of_length_le (by omega)] at this
        exact this
set_option maxRecDepth 100000 in
set_option maxHeartbeats 1600000 in
theorem eqSnapS {ad ad' : Option Addr} {n : Nat} (cap cap' : Nat) {ws : List (Int × List Int)} {w : World} (h : ReadsN w ad ws) (h' : ReadsN w ad' ws) (hl : ws.length = n) (hn : n ≤ 2097152) (hb : ∀ i, (ws.getD i sn0).2.length ≤ 2097152) :
    Calls Try.prog 29 #[.slice ad n cap, .slice ad' n cap'] w fun e w' => e = .returned (.bool true) ∧ Below w.heap.size w w' := by
  go_enter Try.func29, Try.ntmps29
  go_wp2
  go_loopw [5] (fun i wr => ∃ k : Nat, k ≤ n ∧ i = .int .i64 k ∧ Hid (Below w.heap.size w wr)) (fun i _ => n - (intOf i).toNat)
  case atStart => exact ⟨0, Nat.zero_le _, rfl, hid (Below.refl _ _)⟩
  case round =>
    obtain ⟨k, hk, rfl, hS⟩ := hrel
    by_cases hlt : k < n
    · have hlt' : (k : Int) < (n : Int) := by omega
      have hk0 : (0 : Int) ≤ (k : Int) := by omega
      rcases h.cells with h0 | ⟨b, off, rfl, hc⟩
      · omega
      rcases h'.cells with h0 | ⟨b', off', rfl, hc'⟩
      · omega
      obtain ⟨hca0, v, hcx0, a, c, rfl, hr0, _, _⟩ := hc k (by omega)
      obtain ⟨hcb0, v', hcy0, a', c', rfl, hr0', _, _⟩ := hc' k (by omega)
      have bl := World.block_lt_of_cell? w _ hca0
      have bl' := World.block_lt_of_cell? w _ hcb0
      have hca := (hS.out.cell (p := ⟨b, off + k * 2, none⟩) bl).trans hca0
      have hcx := (hS.out.cell (p := ⟨b, off + k * 2 + 1, none⟩) bl).trans hcx0
      have hcb := (hS.out.cell (p := ⟨b', off' + k * 2, none⟩) bl').trans hcb0
      have hcy := (hS.out.cell (p := ⟨b', off' + k * 2 + 1, none⟩) bl').trans hcy0
      have hr := hid (hr0.below hS.out (Nat.le_refl _))
      have hr' := hid (hr0'.below hS.out (Nat.le_refl _))
      have hlen := hb k
      generalize ws.getD k sn0 = p at *
      obtain ⟨A, zs⟩ := p
      obtain ⟨m, hm⟩ : ∃ m, zs.length = m := ⟨_, rfl⟩
      simp only at hca hcx hcb hcy hlen hr hr'
      rw [hm] at hcx hcy hlen hr hr'
      have BL := hid (show b < wr.heap.size from Nat.lt_of_lt_of_le bl hS.out.size)
      have BL' := hid (show b' < wr.heap.size from Nat.lt_of_lt_of_le bl' hS.out.size)
      clear hc hc' hcx0 hcy0 hr0 hr0' hm hca0 hcb0 bl bl'
      go_wp2
      go_region_held3 (fun W => W.cell? ⟨b, off + k * 2, none⟩ = some (.int .i64 A) ∧ W.cell? ⟨b, off + k * 2 + 1, none⟩ = some (.slice a m c) ∧ W.cell? ⟨b', off' + k * 2, none⟩ = some (.int .i64 A) ∧ W.cell? ⟨b', off' + k * 2 + 1, none⟩ = some (.slice a' m c')) (first | exact ⟨k0, k1, k2, k3⟩ | exact ⟨by simpa using hca, by simpa using hcx, by simpa using hcb, by simpa using hcy⟩)
        (first
        | (go_at_call 22; refine (eqSnap A c c' ((Still.drewN wr _).readsI hr.out) ((Still.drewN wr _).readsI hr'.out) (by omega)).mono ?_; rintro e u ⟨rfl, b1⟩; have B0 := (Below.drewN (B := wr.heap.size) wr _).trans b1; have k0 := (B0.cell (p := ⟨b, off + k * 2, none⟩) BL.out).trans hca; have k1 := (B0.cell (p := ⟨b, off + k * 2 + 1, none⟩) BL.out).trans hcx; have k2 := (B0.cell (p := ⟨b', off' + k * 2, none⟩) BL'.out).trans hcb; have k3 := (B0.cell (p := ⟨b', off' + k * 2 + 1, none⟩) BL'.out).trans hcy))
      have HS := hid (hS.out.trans (B0.mono hS.out.size))
      clear b1 B0 k0 k1 k2 k3
      go_wp2
      go_roundw
      case rel => exact ⟨k + 1, by omega, by go_num, HS⟩
      case measure => simp [intOf]; omega
    · go_wp2
      go_ret
      exact ⟨rfl, hS.out⟩
def totN (ws : List (Int × List Int)) : Nat := tot (ws.map (·.2))
set_option maxRecDepth 100000 in
set_option maxHeartbeats 1600000 in
theorem szSnapS {ad : Option Addr} {n : Nat} (cap : Nat) {ws : List (Int × List Int)} {w : World} (h : ReadsN w ad ws) (hl : ws.length = n) (hn : n ≤ 9223372036854775807) (left : Int) (h0 : 0 ≤ left) (h1 : left ≤ 1048576) :
    Calls Try.prog 27 #[.slice ad n cap, .int .i64 left] w fun e w' => e = .returned (.int .i64 (lft9 left (n + totN ws))) ∧ Below w.heap.size w w' := by
  have a1 : (0 : Int) ≤ (n : Int) := by omega
  have a2 : (n : Int) ≤ 9223372036854775807 := by omega
  by_cases hbig : left < n
  · have q : left - (n : Int) < 0 := by omega
    have HE := hid (show lft9 left (n + totN ws) = -1 by unfold lft9; rw [if_pos (by omega)])
    go_enter Try.func27, Try.ntmps27
    go_wp2
    go_ret
    exact ⟨by rw [HE.out]; rfl, Below.refl _ _⟩
  have q : ¬ left - (n : Int) < 0 := by omega
  have hn2 : n ≤ 1048576 := by omega
  obtain ⟨L, hL⟩ : ∃ L : Int, left - n = L := ⟨_, rfl⟩
  have hL0 : 0 ≤ L := by omega
  have hL1 : L ≤ 1048576 := by omega
  have HG := hid (show ∀ t : Nat, lft9 left (n + t) = lft9 L t by intro t; unfold lft9; by_cases hh : L < t; rw [if_pos (by omega), if_pos hh]; rw [if_neg (by omega), if_neg hh]; omega)
  have HL := hid hL
  go_enter Try.func27, Try.ntmps27
  go_wp2
  clear hL q
  go_loopw [1, 5] (fun l i wr => ∃ (k : Nat) (x : Int), k ≤ n ∧ i = .int .i64 k ∧ l = .int .i64 x ∧ 0 ≤ x ∧ x ≤ 1048576 ∧ Hid (x = L - tot ((ws.map (·.2)).take k)) ∧ Hid (Below w.heap.size w wr)) (fun _ i _ => n - (intOf i).toNat)
  case atStart => exact ⟨0, L, Nat.zero_le _, rfl, rfl, hL0, hL1, hid (by simp [tot]), hid (Below.refl _ _)⟩
  case round =>
    obtain ⟨k, x, hk, rfl, rfl, hx0, hx1, HX, hB⟩ := hrel
    by_cases hlt : k < n
    · have hlt' : (k : Int) < (n : Int) := by omega
      have hk0 : (0 : Int) ≤ (k : Int) := by omega
      rcases h.cells with h0 | ⟨b, off, rfl, hc⟩
      · omega
      obtain ⟨hca, v, hcx, a, c, rfl, hr0, _, hmx⟩ := hc k (by omega)
      unfold maxLen at hmx
      have bl := World.block_lt_of_cell? w _ hcx
      replace hcx := (hB.out.cell (p := ⟨b, off + k * 2 + 1, none⟩) bl).trans hcx
      replace hca := (hB.out.cell (p := ⟨b, off + k * 2, none⟩) bl).trans hca
      have HT := hid (tot_step (ws.map (·.2)) k (by simp; omega))
      rw [map2_getD9] at HT
      have HU := hid (tot_take (ws.map (·.2)) (k + 1))
      generalize ws.getD k sn0 = p at *
      obtain ⟨A, zs⟩ := p
      simp only at hca hcx hmx HT
      obtain ⟨m, hm⟩ : ∃ m, zs.length = m := ⟨_, rfl⟩
      rw [hm] at hcx hmx HT
      clear hc hr0 hm
      by_cases hbm : x < m
      · have HE := hid (show lft9 x m = -1 by unfold lft9; rw [if_pos hbm])
        go_wp2_with fail
        refine (szSnap A a m c x (by omega) (by omega) (by omega) _).mono ?_
        rintro e w1 ⟨rfl, b1⟩
        rw [HE.out]
        have HB := hid (hB.out.trans (b1.mono hB.out.size))
        clear b1
        go_wp2_with fail
        go_ret
        refine ⟨?_, HB.out⟩
        rw [HG.out]
        unfold lft9 totN
        rw [if_pos (by have := HT.out; have := HU.out; have := HX.out; omega)]
        rfl
      · obtain ⟨y, hy⟩ : ∃ y : Int, x - m = y := ⟨_, rfl⟩
        have HE := hid (show lft9 x m = y by unfold lft9; rw [if_neg hbm, hy])
        have hy0 : 0 ≤ y := by omega
        have hy1 : y ≤ 1048576 := by omega
        have hy2 : ¬ y < 0 := by omega
        have HY := hid hy
        clear hy
        go_wp2_with fail
        refine (szSnap A a m c x (by omega) (by omega) (by omega) _).mono ?_
        rintro e w1 ⟨rfl, b1⟩
        rw [HE.out]
        have HB := hid (hB.out.trans (b1.mono hB.out.size))
        clear b1
        go_wp2_with fail
        go_roundw
        case rel => exact ⟨k + 1, y, by omega, by go_num, rfl, hy0, hy1, hid (by have := HT.out; have := HX.out; have := HY.out; omega), HB⟩
        case measure => simp [intOf]; omega
    · have hlt' : ¬ (k : Int) < (n : Int) := by omega
      go_wp2
      go_ret
      refine ⟨?_, hB.out⟩
      rw [HG.out]
      have := HX.out
      rw [List.take_of_length_le (by simp; omega)] at this
      unfold lft9 totN
      rw [if_neg (by omega), this]
      rfl
end Go.Proofs.Ytemhmlikfiknlaa
