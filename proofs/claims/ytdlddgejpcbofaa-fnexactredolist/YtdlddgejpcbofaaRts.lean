/- The contracts of the laws' toRecordS, szRecordS. Conditions: at most 2^21 records of at most 2^21 bytes each. -/
import Derived.Test.YtdlddgejpcbofaaRsc
namespace Go.Proofs.Ytdlddgejpcbofaa
open Go.RowKit
set_option maxRecDepth 100000

theorem set_rep' {α : Type} (xs : List α) (k n : Nat) (z v : α) (hx : xs.length = k) (hk : k < n) : (xs ++ List.replicate (n - k) z).set k v = (xs ++ [v]) ++ List.replicate (n - (k + 1)) z := by
  rw [List.set_append_right _ _ (by omega), hx, Nat.sub_self, show n - k = (n - (k + 1)) + 1 by omega, List.replicate_succ, List.set_cons_zero]
  simp
theorem made6 : ∀ n : Nat, (madeCells #[.int .i64 0, .int .i64 0, .int .i64 0, .int .i64 0, .int .i64 0, .slice none 0 0] (n * 6)).toList = cellsR (List.replicate n r0) (List.replicate n nilS) := by
  intro n
  have h : ∀ n : Nat, (madeCells #[Value.int .i64 0, .int .i64 0, .int .i64 0, .int .i64 0, .int .i64 0, .slice none 0 0] (n * 6)).toList = (List.range (n * 6)).map (fun i => #[Value.int .i64 0, .int .i64 0, .int .i64 0, .int .i64 0, .int .i64 0, .slice none 0 0][i % 6]!) := by
    intro n
    simp [madeCells]
  rw [h]
  induction n with
  | zero => rfl
  | succ n ih =>
    rw [List.replicate_succ', List.replicate_succ', cellsR_snoc _ _ _ _ (by simp), ← ih]
    rw [show (n + 1) * 6 = n * 6 + 1 + 1 + 1 + 1 + 1 + 1 by omega]
    simp only [List.range_succ, List.map_append, List.map_cons, List.map_nil, List.append_assoc, show n * 6 % 6 = 0 by omega, show (n * 6 + 1) % 6 = 1 by omega, show (n * 6 + 1 + 1) % 6 = 2 by omega, show (n * 6 + 1 + 1 + 1) % 6 = 3 by omega, show (n * 6 + 1 + 1 + 1 + 1) % 6 = 4 by omega, show (n * 6 + 1 + 1 + 1 + 1 + 1) % 6 = 5 by omega]
    rfl


set_option maxHeartbeats 6400000 in
theorem toRecordS {ad : Option Addr} {n : Nat} (cap : Nat) {rs : List Rc} {w : World} (h : ReadsR w ad rs) (hl : rs.length = n) (hn : n ≤ 2097152) (hb : ∀ i, (rs.getD i r0).D.length ≤ 2097152) :
    Calls Try.prog 7 #[.slice ad n cap] w fun e w' => ∃ c, e = .returned (.slice (some ⟨w.heap.size, 0, none⟩) n c) ∧ OwnR w' w.heap.size w'.heap.size (.slice (some ⟨w.heap.size, 0, none⟩) n c) rs ∧ Below w.heap.size w w' := by
  obtain ⟨i0, hi, hz0, hz1, hz2⟩ := info_parts Try.infoRc
  go_enter Try.func7, Try.ntmps7
  go_wp2_with (at_make; refine wpList_make_full _ rfl _ _ 28 rfl w.heap.size 41 i0 (.agg #[.int .i64 0, .int .i64 0, .int .i64 0, .int .i64 0, .int .i64 0, .slice none 0 0]) 6 Try.underlying28 hi hz0 hz1 _ _ _ _ n rfl rfl (by omega) (by omega) ?b2 ?b3 (Nat.le_refl _) ?_)
  case b2 => rw [hz2]; omega
  case b3 => unfold maxLen; omega
  intro w0' hown0 hgrow0
  go_wp2
  go_loopw [4] (fun i wr => ∃ (k : Nat) (ys : List Value), k ≤ n ∧ i = .int .i64 k ∧ ys.length = k ∧ Hid (wr.ownsRow w.heap.size 41 6 (.slice (some ⟨w.heap.size, 0, none⟩) n n) n (cellsR (rs.take k ++ List.replicate (n - k) r0) (ys ++ List.replicate (n - k) nilS))) ∧ Hid (Bands wr w.heap.size wr.heap.size ys ((rs.take k).map (·.D))) ∧ Hid (Below w.heap.size w wr))
    (fun i _ => n - (intOf i).toNat)
  case atStart =>
    refine ⟨0, [], Nat.zero_le _, rfl, rfl, hid ?_, hid (by rw [List.take_zero]; exact Bands.nil _ _ _), hid ((Below.refl _ _).grown hgrow0 (Nat.le_refl _) (fun k h => by cases h))⟩
    have hown1 : w0'.ownsRow w.heap.size 41 6 (.slice (some ⟨w.heap.size, 0, none⟩) n n) n (madeCells #[.int .i64 0, .int .i64 0, .int .i64 0, .int .i64 0, .int .i64 0, .slice none 0 0] (n * 6)).toList := hown0
    rw [made6] at hown1
    simpa using hown1
  case round =>
    obtain ⟨k, ys, hk, rfl, hx, hown, hB, hnx⟩ := hrel
    by_cases hlt : k < n
    · have hlt' : (k : Int) < (n : Int) := by omega
      rcases h.cells with h0 | ⟨b, off, rfl, hc⟩
      · omega
      obtain ⟨v, x1, a, c, rfl, hr0, hnil, hmx⟩ := hc k (by omega)
      obtain ⟨hc0, hc1, hc2, hc3, hc4, hc5⟩ := x1.below hnx.out (Nat.le_refl _)
      have hr := hid (hr0.below hnx.out (Nat.le_refl _))
      have hlen := hb k
      have HT := hid (takeR_snoc rs k (by omega))
      have Hbd := hid hr0.bd
      generalize rs.getD k r0 = p at *
      obtain ⟨K, L, X, P, S, zs⟩ := p
      obtain ⟨m, hm⟩ : ∃ m, zs.length = m := ⟨_, rfl⟩
      simp only [Nat.add_zero] at hc0 hc1 hc2 hc3 hc4 hc5 hlen hr
      rw [hm] at hc5 hlen hr
      have HM := hid hm
      clear hc x1 hr0 hnil hmx hm hown0 hgrow0
      go_wp2_with fail
      refine (toRecord K L X P S c hr.out (by omega)).mono ?_
      rintro e w1 ⟨g, rfl, o, b1⟩
      have hown1 := owns_below b1 (by have := hnx.out.size; omega) hown.out
      have hz0 : (cellsR (rs.take k ++ List.replicate (n - k) r0) (ys ++ List.replicate (n - k) nilS)).length = n * 6 := by
        rw [cellsR_length _ _ (by simp; omega)]; simp; omega
      have hcy : ∀ j, j < 6 → ∃ v, w1.cell? ⟨w.heap.size, k * 6 + j, none⟩ = some v := fun j hj => by
        rw [hown1.cellAt (k * 6 + j) (by omega)]
        exact ⟨_, List.getElem?_eq_getElem (by omega)⟩
      obtain ⟨z0, y0⟩ := hcy 0 (by omega)
      have f0 : w1.frozen? ⟨w.heap.size, k * 6, none⟩ = false := hown1.frozenAt (k * 6)
      obtain ⟨z1, y1⟩ := hcy 1 (by omega)
      have f1 : w1.frozen? ⟨w.heap.size, k * 6 + 1, none⟩ = false := hown1.frozenAt (k * 6 + 1)
      obtain ⟨z2, y2⟩ := hcy 2 (by omega)
      have f2 : w1.frozen? ⟨w.heap.size, k * 6 + 2, none⟩ = false := hown1.frozenAt (k * 6 + 2)
      obtain ⟨z3, y3⟩ := hcy 3 (by omega)
      have f3 : w1.frozen? ⟨w.heap.size, k * 6 + 3, none⟩ = false := hown1.frozenAt (k * 6 + 3)
      obtain ⟨z4, y4⟩ := hcy 4 (by omega)
      have f4 : w1.frozen? ⟨w.heap.size, k * 6 + 4, none⟩ = false := hown1.frozenAt (k * 6 + 4)
      obtain ⟨z5, y5⟩ := hcy 5 (by omega)
      have f5 : w1.frozen? ⟨w.heap.size, k * 6 + 5, none⟩ = false := hown1.frozenAt (k * 6 + 5)
      simp only [Nat.add_zero] at y0
      have R0 := hown1.stored (k * 6 + 0) (.int .i64 K)
      have R1 := R0.1.stored (k * 6 + 1) (.int .i64 L)
      have R2 := R1.1.stored (k * 6 + 2) (.int .i64 X)
      have R3 := R2.1.stored (k * 6 + 3) (.int .i64 P)
      have R4 := R3.1.stored (k * 6 + 4) (.int .i64 S)
      have R5 := R4.1.stored (k * 6 + 5) (.slice (some ⟨g, 0, none⟩) m m)
      have hcs := cellsR_set (rs.take k ++ List.replicate (n - k) r0) (ys ++ List.replicate (n - k) nilS) k ⟨K, L, X, P, S, zs⟩ (.slice (some ⟨g, 0, none⟩) m m) (by simp; omega) (by simp; omega)
      simp only [] at hcs
      have hN := R5.1
      rw [hcs, set_rep' _ k n r0 _ (by simp; omega) hlt, set_rep' ys k n nilS _ hx hlt, ← HT.out] at hN
      have hB1 : Bands w1 w.heap.size w1.heap.size (ys ++ [.slice (some ⟨g, 0, none⟩) m m]) ((rs.take (k + 1)).map (·.D)) := by
        rw [HT.out, List.map_append]
        exact (hB.out.agree (Agree.below b1 (Nat.le_refl _))).snoc (by have := hnx.out.size; omega) b1.size (by rw [HM.out]; exact o) Hbd.out (Nat.le_refl _)
      have Q0 := hB1.beside R0.2 (fun i => owns_ne (hB1.own i) hown1 (by decide))
      have Q1 := Q0.beside R1.2 (fun i => owns_ne (Q0.own i) R0.1 (by decide))
      have Q2 := Q1.beside R2.2 (fun i => owns_ne (Q1.own i) R1.1 (by decide))
      have Q3 := Q2.beside R3.2 (fun i => owns_ne (Q2.own i) R2.1 (by decide))
      have Q4 := Q3.beside R4.2 (fun i => owns_ne (Q3.own i) R3.1 (by decide))
      have Q5 := Q4.beside R5.2 (fun i => owns_ne (Q4.own i) R4.1 (by decide))
      simp only [Nat.add_zero] at Q5 hN
      have hB3 := hid Q5
      have R1' := hid hN
      have B2 := hid (((((((hnx.out.trans (b1.mono hnx.out.size)).setCell (p := ⟨w.heap.size, k * 6, none⟩) (Nat.le_refl _) (.int .i64 K)).setCell (p := ⟨w.heap.size, k * 6 + 1, none⟩) (Nat.le_refl _) (.int .i64 L)).setCell (p := ⟨w.heap.size, k * 6 + 2, none⟩) (Nat.le_refl _) (.int .i64 X)).setCell (p := ⟨w.heap.size, k * 6 + 3, none⟩) (Nat.le_refl _) (.int .i64 P)).setCell (p := ⟨w.heap.size, k * 6 + 4, none⟩) (Nat.le_refl _) (.int .i64 S)).setCell (p := ⟨w.heap.size, k * 6 + 5, none⟩) (Nat.le_refl _) (.slice (some ⟨g, 0, none⟩) m m))
      clear R0 R1 R2 R3 R4 R5 hB1 Q0 Q1 Q2 Q3 Q4 Q5 hown1 o b1 hz0 hN hcs hcy
      go_wp2_with fail
      go_roundw
      case rel => exact ⟨k + 1, ys ++ [.slice (some ⟨g, 0, none⟩) m m], by omega, by go_num, by simp [hx], hid R1'.out, hid (by simpa using hB3.out), hid B2.out⟩
      case measure => simp [intOf]; omega
    · go_wp2
      go_ret
      have hkn : k = n := by omega
      subst hkn
      have h1 := hown.out
      have h2 := hB.out
      rw [List.take_of_length_le (by omega)] at h1 h2
      simp only [Nat.sub_self, List.replicate_zero, List.append_nil] at h1
      refine ⟨k, rfl, ⟨⟨ys, by omega, h2, by rw [hl]; exact h1⟩, fun g hg => (h1.lt g hg).2⟩, hnx.out⟩

set_option maxHeartbeats 3200000 in
theorem szRecordS {ad : Option Addr} {n : Nat} (cap : Nat) {rs : List Rc} {w : World} (h : ReadsR w ad rs) (hl : rs.length = n) (hn : n ≤ 9223372036854775807) (left : Int) (h0 : 0 ≤ left) (h1 : left ≤ 1048576) :
    Calls Try.prog 4 #[.slice ad n cap, .int .i64 left] w fun e w' => e = .returned (.int .i64 (lft left (n + tot (rs.map (·.D))))) ∧ Below w.heap.size w w' := by
  have a1 : (0 : Int) ≤ (n : Int) := by omega
  have a2 : (n : Int) ≤ 9223372036854775807 := by omega
  by_cases hbig : left < n
  · have q : left - (n : Int) < 0 := by omega
    have HE := hid (show lft left (n + tot (rs.map (·.D))) = -1 by unfold lft; rw [if_pos (by omega)])
    go_enter Try.func4, Try.ntmps4
    go_wp2
    go_ret
    exact ⟨by rw [HE.out]; rfl, Below.refl _ _⟩
  have q : ¬ left - (n : Int) < 0 := by omega
  have hn2 : n ≤ 1048576 := by omega
  obtain ⟨L, hL⟩ : ∃ L : Int, left - n = L := ⟨_, rfl⟩
  have hL0 : 0 ≤ L := by omega
  have hL1 : L ≤ 1048576 := by omega
  have HG := hid (show ∀ t : Nat, lft left (n + t) = lft L t by intro t; unfold lft; by_cases hh : L < t; rw [if_pos (by omega), if_pos hh]; rw [if_neg (by omega), if_neg hh]; omega)
  have HL := hid hL
  go_enter Try.func4, Try.ntmps4
  go_wp2
  clear hL q
  go_loopw [1, 5] (fun l i wr => ∃ (k : Nat) (x : Int), k ≤ n ∧ i = .int .i64 k ∧ l = .int .i64 x ∧ 0 ≤ x ∧ x ≤ 1048576 ∧ Hid (x = L - tot ((rs.map (·.D)).take k)) ∧ Hid (Below w.heap.size w wr)) (fun _ i _ => n - (intOf i).toNat)
  case atStart => exact ⟨0, L, Nat.zero_le _, rfl, rfl, hL0, hL1, hid (by simp [tot]), hid (Below.refl _ _)⟩
  case round =>
    obtain ⟨k, x, hk, rfl, rfl, hx0, hx1, HX, hB⟩ := hrel
    by_cases hlt : k < n
    · have hlt' : (k : Int) < (n : Int) := by omega
      have hk0 : (0 : Int) ≤ (k : Int) := by omega
      rcases h.cells with h0 | ⟨b, off, rfl, hc⟩
      · omega
      obtain ⟨v, x1, a, c, rfl, hr0, _, hmx⟩ := hc k (by omega)
      unfold maxLen at hmx
      obtain ⟨hc0, hc1, hc2, hc3, hc4, hc5⟩ := x1.below hB.out (Nat.le_refl _)
      have HT := hid (tot_step (rs.map (·.D)) k (by simp; omega))
      rw [mapD_getD] at HT
      have HU := hid (tot_take (rs.map (·.D)) (k + 1))
      generalize rs.getD k r0 = p at *
      obtain ⟨K, L', X, P, S, zs⟩ := p
      simp only [Nat.add_zero] at hc0 hc1 hc2 hc3 hc4 hc5 hmx HT
      obtain ⟨m, hm⟩ : ∃ m, zs.length = m := ⟨_, rfl⟩
      rw [hm] at hc5 hmx HT
      clear hc hr0 hm x1
      by_cases hbm : x < m
      · have HE := hid (show lft x m = -1 by unfold lft; rw [if_pos hbm])
        go_wp2_with fail
        refine (szRecord K L' X P S a m c x (by omega) (by omega) (by omega) _).mono ?_
        rintro e w1 ⟨rfl, b1⟩
        rw [HE.out]
        have HB := hid (hB.out.trans (b1.mono hB.out.size))
        clear b1
        go_wp2_with fail
        go_ret
        refine ⟨?_, HB.out⟩
        rw [HG.out]
        unfold lft
        rw [if_pos (by have := HT.out; have := HU.out; have := HX.out; omega)]
        rfl
      · obtain ⟨y, hy⟩ : ∃ y : Int, x - m = y := ⟨_, rfl⟩
        have HE := hid (show lft x m = y by unfold lft; rw [if_neg hbm, hy])
        have hy0 : 0 ≤ y := by omega
        have hy1 : y ≤ 1048576 := by omega
        have hy2 : ¬ y < 0 := by omega
        have HY := hid hy
        clear hy
        go_wp2_with fail
        refine (szRecord K L' X P S a m c x (by omega) (by omega) (by omega) _).mono ?_
        rintro e w1 ⟨rfl, b1⟩
        rw [HE.out]
        have HB := hid (hB.out.trans (b1.mono hB.out.size))
        clear b1
        go_wp2_with fail
        go_roundw
        case rel => exact ⟨k + 1, y, by omega, by go_num, rfl, hy0, hy1, hid (by have := HT.out; have := HX.out; have := HY.out; omega), HB⟩
        case measure => simp [intOf]; omega
    · have hlt' : ¬ (k : Int) < (n : Int) := by omega
      go_wp2
      go_ret
      refine ⟨?_, hB.out⟩
      rw [HG.out]
      have := HX.out
      rw [List.take_of_length_le (by simp; omega)] at this
      unfold lft
      rw [if_neg (by omega), this]
      rfl
end Go.Proofs.Ytdlddgejpcbofaa
