/- The contracts of the laws' szByteS, szByteSS, szWrite, szWriteS, szDisk: how much is left of a measure. Conditions: a measure of at most 2^20. -/
import Derived.Test.YtnnnehjlegjejaaDoorDm
import Derived.Test.YtnnnehjlegjejaaDoorAl
namespace Go.Proofs.YtnnnehjlegjejaaDoor
open Go.RowKit

/-- What is left, or -1. -/
def lft (left : Int) (n : Nat) : Int := if left < n then -1 else left - n
def totW (ws : List (Int × List Int)) : Nat := tot (ws.map (·.2))

theorem szByteS (ad : Option Addr) (n cap : Nat) (left : Int) (hn : n ≤ 9223372036854775807) (h0 : 0 ≤ left) (h1 : left ≤ 1048576) (w : World) :
    Calls Tryd.prog 63 #[.slice ad n cap, .int .i64 left] w fun e w' => e = .returned (.int .i64 (lft left n)) ∧ w' = w := by
  unfold lft
  have a1 : (0 : Int) ≤ (n : Int) := by omega
  have a2 : (n : Int) ≤ 9223372036854775807 := by omega
  by_cases h : left < n
  · rw [if_pos h]
    have q : left - (n : Int) < 0 := by omega
    go_enter Tryd.func63, Tryd.ntmps63
    go_wp2
    go_ret
    exact ⟨rfl, rfl⟩
  · rw [if_neg h]
    have q : ¬ left - (n : Int) < 0 := by omega
    go_enter Tryd.func63, Tryd.ntmps63
    go_wp2
    go_ret
    exact ⟨rfl, rfl⟩

set_option maxRecDepth 100000 in
set_option maxHeartbeats 1600000 in
theorem szByteSS {ad : Option Addr} {n : Nat} (cap : Nat) {ss : List (List Int)} {w : World} (h : ReadsS w ad ss) (hl : ss.length = n) (hn : n ≤ 9223372036854775807) (left : Int) (h0 : 0 ≤ left) (h1 : left ≤ 1048576) :
    Calls Tryd.prog 45 #[.slice ad n cap, .int .i64 left] w fun e w' => e = .returned (.int .i64 (lft left (n + tot ss))) ∧ w' = w := by
  have a1 : (0 : Int) ≤ (n : Int) := by omega
  have a2 : (n : Int) ≤ 9223372036854775807 := by omega
  by_cases hbig : left < n
  · have q : left - (n : Int) < 0 := by omega
    have HE := hid (show lft left (n + tot ss) = -1 by unfold lft; rw [if_pos (by omega)])
    go_enter Tryd.func45, Tryd.ntmps45
    go_wp2
    go_ret
    exact ⟨by rw [HE.out]; rfl, rfl⟩
  have q : ¬ left - (n : Int) < 0 := by omega
  have hn2 : n ≤ 1048576 := by omega
  obtain ⟨L, hL⟩ : ∃ L : Int, left - n = L := ⟨_, rfl⟩
  have hL0 : 0 ≤ L := by omega
  have hL1 : L ≤ 1048576 := by omega
  have HG := hid (show ∀ t : Nat, lft left (n + t) = lft L t by intro t; unfold lft; by_cases hh : L < t; rw [if_pos (by omega), if_pos hh]; rw [if_neg (by omega), if_neg hh]; omega)
  have HL := hid hL
  go_enter Tryd.func45, Tryd.ntmps45
  go_wp2
  clear hL q
  go_loopw [1, 5] (fun l i wr => ∃ (k : Nat) (x : Int), k ≤ n ∧ i = .int .i64 k ∧ l = .int .i64 x ∧ 0 ≤ x ∧ x ≤ 1048576 ∧ Hid (x = L - tot (ss.take k)) ∧ wr = w) (fun _ i _ => n - (intOf i).toNat)
  case atStart => exact ⟨0, L, Nat.zero_le _, rfl, rfl, hL0, hL1, hid (by simp [tot]), rfl⟩
  case round =>
    obtain ⟨k, x, hk, rfl, rfl, hx0, hx1, HX, rfl⟩ := hrel
    by_cases hlt : k < n
    · have hlt' : (k : Int) < (n : Int) := by omega
      have hk0 : (0 : Int) ≤ (k : Int) := by omega
      rcases h.cells with h0 | ⟨b, off, rfl, hc⟩
      · omega
      obtain ⟨v, hcx, a, c, rfl, hr0, _, hmx⟩ := hc k (by omega)
      unfold maxLen at hmx
      have HT := hid (tot_step ss k (by omega))
      have HU := hid (tot_take ss (k + 1))
      generalize ss.getD k [] = zs at *
      obtain ⟨m, hm⟩ : ∃ m, zs.length = m := ⟨_, rfl⟩
      rw [hm] at hcx hmx HT
      clear hc hr0 hm
      by_cases hbm : x < m
      · have HE := hid (show lft x m = -1 by unfold lft; rw [if_pos hbm])
        go_wp2_with fail
        refine (szByteS a m c x (by omega) (by omega) (by omega) _).mono ?_
        rintro e w1 ⟨rfl, rfl⟩
        rw [HE.out]
        go_wp2_with fail
        go_ret
        refine ⟨?_, rfl⟩
        rw [HG.out]
        unfold lft
        rw [if_pos (by have := HT.out; have := HU.out; have := HX.out; omega)]
        rfl
      · obtain ⟨y, hy⟩ : ∃ y : Int, x - m = y := ⟨_, rfl⟩
        have HE := hid (show lft x m = y by unfold lft; rw [if_neg hbm, hy])
        have hy0 : 0 ≤ y := by omega
        have hy1 : y ≤ 1048576 := by omega
        have hy2 : ¬ y < 0 := by omega
        have HY := hid hy
        clear hy
        go_wp2_with fail
        refine (szByteS a m c x (by omega) (by omega) (by omega) _).mono ?_
        rintro e w1 ⟨rfl, rfl⟩
        rw [HE.out]
        go_wp2_with fail
        go_roundw
        case rel => exact ⟨k + 1, y, by omega, by go_num, rfl, hy0, hy1, hid (by have := HT.out; have := HX.out; have := HY.out; omega), by first | trivial | rfl⟩
        case measure => simp [intOf]; omega
    · have hlt' : ¬ (k : Int) < (n : Int) := by omega
      go_wp2
      go_ret
      refine ⟨?_, rfl⟩
      rw [HG.out]
      have := HX.out
      rw [List.take_of_length_le (by omega)] at this
      unfold lft
      rw [if_neg (by omega), this]
      rfl
set_option maxRecDepth 100000 in
theorem szWrite (A : Int) (ad : Option Addr) (n cap : Nat) (left : Int) (hn : n ≤ 9223372036854775807) (h0 : 0 ≤ left) (h1 : left ≤ 1048576) (w : World) :
    Calls Tryd.prog 64 #[.agg #[.int .i64 A, .slice ad n cap], .int .i64 left] w fun e w' => e = .returned (.int .i64 (lft left n)) ∧ Below w.heap.size w w' := by
  have HA := hid (show Below w.heap.size w (w.alloc (.cells #[.int .i64 A, .slice ad n cap] 94)) from (Below.refl _ _).alloc (Nat.le_refl _) _)
  have hz := szByteS ad n cap left hn h0 h1
  by_cases h : left < n
  · rw [show lft left n = -1 by unfold lft; rw [if_pos h]] at hz ⊢
    have HZ := hid hz
    clear hz
    go_enter Tryd.func64, Tryd.ntmps64
    go_wp2_with fail
    refine (HZ.out _).mono ?_
    rintro e w1 ⟨rfl, rfl⟩
    go_wp2_with fail
    go_ret
    exact ⟨rfl, HA.out⟩
  · rw [show lft left n = left - n by unfold lft; rw [if_neg h]] at hz ⊢
    have q : ¬ left - (n : Int) < 0 := by omega
    have HZ := hid hz
    clear hz
    go_enter Tryd.func64, Tryd.ntmps64
    go_wp2_with fail
    refine (HZ.out _).mono ?_
    rintro e w1 ⟨rfl, rfl⟩
    go_wp2_with fail
    go_ret
    exact ⟨rfl, HA.out⟩

set_option maxRecDepth 100000 in
set_option maxHeartbeats 1600000 in
theorem szWriteS {ad : Option Addr} {n : Nat} (cap : Nat) {ws : List (Int × List Int)} {w : World} (h : ReadsW w ad ws) (hl : ws.length = n) (hn : n ≤ 9223372036854775807) (left : Int) (h0 : 0 ≤ left) (h1 : left ≤ 1048576) :
    Calls Tryd.prog 46 #[.slice ad n cap, .int .i64 left] w fun e w' => e = .returned (.int .i64 (lft left (n + totW ws))) ∧ Below w.heap.size w w' := by
  have a1 : (0 : Int) ≤ (n : Int) := by omega
  have a2 : (n : Int) ≤ 9223372036854775807 := by omega
  by_cases hbig : left < n
  · have q : left - (n : Int) < 0 := by omega
    have HE := hid (show lft left (n + totW ws) = -1 by unfold lft; rw [if_pos (by omega)])
    go_enter Tryd.func46, Tryd.ntmps46
    go_wp2
    go_ret
    exact ⟨by rw [HE.out]; rfl, Below.refl _ _⟩
  have q : ¬ left - (n : Int) < 0 := by omega
  have hn2 : n ≤ 1048576 := by omega
  obtain ⟨L, hL⟩ : ∃ L : Int, left - n = L := ⟨_, rfl⟩
  have hL0 : 0 ≤ L := by omega
  have hL1 : L ≤ 1048576 := by omega
  have HG := hid (show ∀ t : Nat, lft left (n + t) = lft L t by intro t; unfold lft; by_cases hh : L < t; rw [if_pos (by omega), if_pos hh]; rw [if_neg (by omega), if_neg hh]; omega)
  have HL := hid hL
  go_enter Tryd.func46, Tryd.ntmps46
  go_wp2
  clear hL q
  go_loopw [1, 5] (fun l i wr => ∃ (k : Nat) (x : Int), k ≤ n ∧ i = .int .i64 k ∧ l = .int .i64 x ∧ 0 ≤ x ∧ x ≤ 1048576 ∧ Hid (x = L - tot ((ws.map (·.2)).take k)) ∧ Hid (Below w.heap.size w wr)) (fun _ i _ => n - (intOf i).toNat)
  case atStart => exact ⟨0, L, Nat.zero_le _, rfl, rfl, hL0, hL1, hid (by simp [tot]), hid (Below.refl _ _)⟩
  case round =>
    obtain ⟨k, x, hk, rfl, rfl, hx0, hx1, HX, hB⟩ := hrel
    by_cases hlt : k < n
    · have hlt' : (k : Int) < (n : Int) := by omega
      have hk0 : (0 : Int) ≤ (k : Int) := by omega
      rcases h.cells with h0 | ⟨b, off, rfl, hc⟩
      · omega
      obtain ⟨hca, v, hcx, a, c, rfl, hr0, _, hmx⟩ := hc k (by omega)
      unfold maxLen at hmx
      have bl := World.block_lt_of_cell? w _ hcx
      replace hcx := (hB.out.cell (p := ⟨b, off + k * 2 + 1, none⟩) bl).trans hcx
      replace hca := (hB.out.cell (p := ⟨b, off + k * 2, none⟩) bl).trans hca
      have HT := hid (tot_step (ws.map (·.2)) k (by simp; omega))
      rw [map2_getD] at HT
      have HU := hid (tot_take (ws.map (·.2)) (k + 1))
      generalize ws.getD k w0 = p at *
      obtain ⟨A, zs⟩ := p
      simp only at hca hcx hmx HT
      obtain ⟨m, hm⟩ : ∃ m, zs.length = m := ⟨_, rfl⟩
      rw [hm] at hcx hmx HT
      clear hc hr0 hm
      by_cases hbm : x < m
      · have HE := hid (show lft x m = -1 by unfold lft; rw [if_pos hbm])
        go_wp2_with fail
        refine (szWrite A a m c x (by omega) (by omega) (by omega) _).mono ?_
        rintro e w1 ⟨rfl, b1⟩
        rw [HE.out]
        have HB := hid (hB.out.trans (b1.mono hB.out.size))
        clear b1
        go_wp2_with fail
        go_ret
        refine ⟨?_, HB.out⟩
        rw [HG.out]
        unfold lft totW
        rw [if_pos (by have := HT.out; have := HU.out; have := HX.out; omega)]
        rfl
      · obtain ⟨y, hy⟩ : ∃ y : Int, x - m = y := ⟨_, rfl⟩
        have HE := hid (show lft x m = y by unfold lft; rw [if_neg hbm, hy])
        have hy0 : 0 ≤ y := by omega
        have hy1 : y ≤ 1048576 := by omega
        have hy2 : ¬ y < 0 := by omega
        have HY := hid hy
        clear hy
        go_wp2_with fail
        refine (szWrite A a m c x (by omega) (by omega) (by omega) _).mono ?_
        rintro e w1 ⟨rfl, b1⟩
        rw [HE.out]
        have HB := hid (hB.out.trans (b1.mono hB.out.size))
        clear b1
        go_wp2_with fail
        go_roundw
        case rel => exact ⟨k + 1, y, by omega, by go_num, rfl, hy0, hy1, hid (by have := HT.out; have := HX.out; have := HY.out; omega), HB⟩
        case measure => simp [intOf]; omega
    · have hlt' : ¬ (k : Int) < (n : Int) := by omega
      go_wp2
      go_ret
      refine ⟨?_, hB.out⟩
      rw [HG.out]
      have := HX.out
      rw [List.take_of_length_le (by simp; omega)] at this
      unfold lft totW
      rw [if_neg (by omega), this]
      rfl

/-- The whole measure of a disk. -/
def szOf (ss : List (List Int)) (ws : List (Int × List Int)) : Nat := ss.length + tot ss + (ws.length + totW ws)

set_option maxRecDepth 100000 in
set_option maxHeartbeats 1600000 in
theorem szDisk {aS aW : Option Addr} {nS nW : Nat} (cS cW : Nat) {ss : List (List Int)} {ws : List (Int × List Int)} (F : Int) (D : Bool) {w : World} (h : ReadsD w aS aW ss ws) (lS : ss.length = nS) (lW : ws.length = nW) (hS : nS ≤ 9223372036854775807) (hW : nW ≤ 9223372036854775807) :
    Calls Tryd.prog 20 #[.agg #[.slice aS nS cS, .slice aW nW cW, .int .i64 F, .bool D], .int .i64 1048576] w fun e w' => e = .returned (.int .i64 (lft 1048576 (szOf ss ws))) ∧ Below w.heap.size w w' := by
  have hB := Below.alloc1 w (.cells #[.slice aS nS cS, .slice aW nW cW, .int .i64 F, .bool D] 47)
  have X0 := heap_alloc_new w (.cells #[.slice aS nS cS, .slice aW nW cW, .int .i64 F, .bool D] 47)
  have c1 := cell_of_row _ _ 1 _ _ _ X0
  have H1 := h.below hB (Nat.le_refl _)
  by_cases hb1 : (1048576 : Int) < (nS + tot ss : Nat)
  · have HE := hid (show lft 1048576 (nS + tot ss) = -1 by unfold lft; rw [if_pos hb1])
    have HF := hid (show lft 1048576 (szOf ss ws) = -1 by unfold lft szOf; rw [if_pos (by omega)])
    go_enter Tryd.func20, Tryd.ntmps20
    go_wp2_with fail
    refine (szByteSS cS H1.s lS hS 1048576 (by omega) (by omega)).mono ?_
    rintro e w1 ⟨rfl, rfl⟩
    rw [HE.out]
    go_wp2_with fail
    go_ret
    exact ⟨by rw [HF.out]; rfl, hB⟩
  obtain ⟨L, hL⟩ : ∃ L : Int, 1048576 - ((nS + tot ss : Nat) : Int) = L := ⟨_, rfl⟩
  have hL0 : 0 ≤ L := by omega
  have hL1 : L ≤ 1048576 := by omega
  have hL2 : ¬ L < 0 := by omega
  have HE := hid (show lft 1048576 (nS + tot ss) = L by unfold lft; rw [if_neg hb1, hL])
  have HL := hid hL
  have HF := hid (show lft 1048576 (szOf ss ws) = lft L (nW + totW ws) by unfold lft szOf; rw [lS, lW]; by_cases hh : L < ((nW + totW ws : Nat) : Int); rw [if_pos (by omega), if_pos hh]; rw [if_neg (by omega), if_neg hh]; omega)
  clear hL hb1
  have HB := hid hB
  have HW := hid H1.w
  have HS := hid H1.s
  clear hB H1 X0
  by_cases hb2 : L < ((nW + totW ws : Nat) : Int)
  · have HG := hid (show lft L (nW + totW ws) = -1 by unfold lft; rw [if_pos hb2])
    clear hb2
    go_enter Tryd.func20, Tryd.ntmps20
    go_wp2_with fail
    refine (szByteSS cS HS.out lS hS 1048576 (by omega) (by omega)).mono ?_
    rintro e w1 ⟨rfl, rfl⟩
    rw [HE.out]
    go_wp2_with fail
    refine (szWriteS cW HW.out lW hW L (by omega) (by omega)).mono ?_
    rintro e w2 ⟨rfl, b2⟩
    rw [HG.out]
    have HB2 := hid (HB.out.trans (b2.mono HB.out.size))
    clear b2
    go_wp2_with fail
    go_ret
    exact ⟨by rw [HF.out, HG.out]; rfl, HB2.out⟩
  · obtain ⟨M, hM⟩ : ∃ M : Int, L - ((nW + totW ws : Nat) : Int) = M := ⟨_, rfl⟩
    have hM0 : 0 ≤ M := by omega
    have hM2 : ¬ M < 0 := by omega
    have HG := hid (show lft L (nW + totW ws) = M by unfold lft; rw [if_neg hb2, hM])
    clear hb2 hM
    go_enter Tryd.func20, Tryd.ntmps20
    go_wp2_with fail
    refine (szByteSS cS HS.out lS hS 1048576 (by omega) (by omega)).mono ?_
    rintro e w1 ⟨rfl, rfl⟩
    rw [HE.out]
    go_wp2_with fail
    refine (szWriteS cW HW.out lW hW L (by omega) (by omega)).mono ?_
    rintro e w2 ⟨rfl, b2⟩
    rw [HG.out]
    have HB2 := hid (HB.out.trans (b2.mono HB.out.size))
    clear b2
    go_wp2_with fail
    go_ret
    exact ⟨by rw [HF.out, HG.out]; rfl, HB2.out⟩
end Go.Proofs.YtnnnehjlegjejaaDoor
