/- The contracts of the draws' cursor: whatever the code, a byte is in 0 .. 255, a number below n is so. For codes of at most 2^21 bytes. -/
import Derived.Test.YtplbejipkaionaaHelp
import Derived.Test.YtplbejipkaionaaDk
import Derived.WalkLawsBesides
import Derived.Deep.RegionHeld3
namespace Go.Proofs.Ytplbejipkaionaa
open Go.RowKit

theorem and255 (n : Int) : bits .and .i64 n 255 = n % 256 := by
  have h255 : (BitVec.ofInt 64 255).toNat = 2 ^ 8 - 1 := by decide
  have key : (BitVec.ofInt 64 n &&& BitVec.ofInt 64 255).toNat = (n % ((2 ^ 64 : Nat) : Int)).toNat % 2 ^ 8 := by
    rw [BitVec.toNat_and, BitVec.toNat_ofInt, h255, Nat.and_two_pow_sub_one_eq_mod]
  show IntKind.i64.wrap ((BitVec.ofInt 64 n &&& BitVec.ofInt 64 255).toNat : Nat) = n % 256
  rw [key, IntKind.wrap_i64]
  omega
theorem and30 (n : Int) : bits .and .i64 n 1073741823 = n % 1073741824 := by
  have h255 : (BitVec.ofInt 64 1073741823).toNat = 2 ^ 30 - 1 := by decide
  have key : (BitVec.ofInt 64 n &&& BitVec.ofInt 64 1073741823).toNat = (n % ((2 ^ 64 : Nat) : Int)).toNat % 2 ^ 30 := by
    rw [BitVec.toNat_and, BitVec.toNat_ofInt, h255, Nat.and_two_pow_sub_one_eq_mod]
  show IntKind.i64.wrap ((BitVec.ofInt 64 n &&& BitVec.ofInt 64 1073741823).toNat : Nat) = n % 1073741824
  rw [key, IntKind.wrap_i64]
  omega
theorem grown_setCell (w : World) (g j : Nat) (v : Value) : w.grownBy (w.setCell ⟨g, j, none⟩ v) (some g) :=
  ⟨rfl, rfl, rfl, by simp [World.setCell], fun k _ hk => heap_setCell_other w ⟨g, j, none⟩ k v (fun e => hk (by simp [e]))⟩
theorem grown_still {a b c : World} {row : Option Nat} (h : a.grownBy b row) (k : Still b c) : a.grownBy c row :=
  ⟨k.os.trans h.os, k.tape.trans h.tape, k.output.trans h.output, by rw [k.heap]; exact h.size, fun i hi hr => by rw [k.heap]; exact h.block i hi hr⟩

/-- The cursor's struct in block g, over the code that reads as zs. -/
structure Cur (w : World) (g : Nat) (ad : Option Addr) (n cap : Nat) (zs : List Int) : Prop where
  row : ∃ (i : Nat) (h : Int), i ≤ n ∧ w.heap[g]? = some (.cells #[.slice ad n cap, .int .i64 i, .int .i64 h] 53 (0, 0))
  reads : Reads w ad n zs
  low : ∀ a, ad = some a → 0 < n → a.block < g

theorem Cur.set {w w' : World} {g : Nat} {ad : Option Addr} {n cap : Nat} {zs : List Int} (c : Cur w g ad n cap zs) (hg : w.grownBy w' (some g)) (i : Nat) (h : Int) (hi : i ≤ n)
    (hr : w'.heap[g]? = some (.cells #[.slice ad n cap, .int .i64 i, .int .i64 h] 53 (0, 0))) : Cur w' g ad n cap zs := by
  refine ⟨⟨i, h, hi, hr⟩, ?_, c.low⟩
  by_cases h0 : n = 0
  · exact ⟨c.reads.len, .inl h0, c.reads.bd⟩
  · refine c.reads.other hg (fun a ha => ?_)
    have := c.low a ha (by omega)
    simp; omega

theorem Cur.still {w w' : World} {g : Nat} {ad : Option Addr} {n cap : Nat} {zs : List Int} (c : Cur w g ad n cap zs) (hs : Still w w') : Cur w' g ad n cap zs := by
  obtain ⟨i, h, hi, hr⟩ := c.row
  exact ⟨⟨i, h, hi, by rw [hs.heap]; exact hr⟩, hs.reads c.reads, c.low⟩
theorem Cur.below {w w' : World} {g : Nat} {ad : Option Addr} {n cap : Nat} {zs : List Int} (c : Cur w g ad n cap zs) {B : Nat} (hb : Below B w w') (hB : w.heap.size ≤ B) : Cur w' g ad n cap zs := by
  obtain ⟨i, h, hi, hr⟩ := c.row
  have := (Array.getElem?_eq_some_iff.1 hr).1
  exact ⟨⟨i, h, hi, by rw [hb.block g (by omega)]; exact hr⟩, c.reads.below hb hB, c.low⟩
theorem Cur.other {w w' : World} {g : Nat} {ad : Option Addr} {n cap : Nat} {zs : List Int} (c : Cur w g ad n cap zs) {row : Option Nat} (hg : w.grownBy w' row) (hr : ∀ k, row = some k → g < k) : Cur w' g ad n cap zs := by
  obtain ⟨i, h, hi, hrow⟩ := c.row
  have hlt := (Array.getElem?_eq_some_iff.1 hrow).1
  refine ⟨⟨i, h, hi, by rw [hg.block g hlt (fun e => by have := hr g e.symm; omega)]; exact hrow⟩, ?_, c.low⟩
  by_cases h0 : n = 0
  · exact ⟨c.reads.len, .inl h0, c.reads.bd⟩
  · refine c.reads.other hg (fun a ha e => ?_)
    have h1 := c.low a ha (by omega)
    have h2 := hr a.block e.symm
    omega

set_option maxRecDepth 100000 in
set_option maxHeartbeats 1600000 in
theorem l1Byte {w : World} {g : Nat} {ad : Option Addr} {n cap : Nat} {zs : List Int} (c : Cur w g ad n cap zs) (hn : n ≤ 2097152) :
    Calls Try.prog 35 #[.pointer (some ⟨g, 0, none⟩)] w fun e w' => ∃ x : Int, e = .returned (.int .i64 x) ∧ 0 ≤ x ∧ x ≤ 255 ∧ Cur w' g ad n cap zs ∧ w.grownBy w' (some g) := by
  obtain ⟨i, h, hi, hrow⟩ := c.row
  have c1 : w.cell? ⟨g, 2, none⟩ = some (.int .i64 h) := by rw [cell_of_row w _ _ _ _ _ hrow]; rfl
  have f1 : w.frozen? ⟨g, 2, none⟩ = false := frozen_of_row w _ _ _ _ hrow
  have HW := hid (fun v => heap_setCell_same w g 2 _ 53 v hrow)
  have ha := and255
  clear hrow
  go_enter Try.func35, Try.ntmps35
  go_wp2
  generalize wrap64 (wrap64 (h * 6364136223846793005) + 1442695040888963407) = H
  have R1 : (w.setCell ⟨g, 2, none⟩ (.int .i64 H)).heap[g]? = some (.cells #[.slice ad n cap, .int .i64 i, .int .i64 H] 53 (0, 0)) := HW.out (.int .i64 H)
  have G1 := grown_setCell w g 2 (.int .i64 H)
  have C1 := c.set G1 i H hi R1
  generalize w.setCell ⟨g, 2, none⟩ (.int .i64 H) = w1 at *
  clear HW c1 f1
  have d0 : w1.cell? ⟨g, 0, none⟩ = some (.slice ad n cap) := by rw [cell_of_row w1 _ _ _ _ _ R1]; rfl
  have d1 : w1.cell? ⟨g, 1, none⟩ = some (.int .i64 i) := by rw [cell_of_row w1 _ _ _ _ _ R1]; rfl
  have d2 : w1.cell? ⟨g, 2, none⟩ = some (.int .i64 H) := by rw [cell_of_row w1 _ _ _ _ _ R1]; rfl
  have f1 : w1.frozen? ⟨g, 1, none⟩ = false := frozen_of_row w1 _ _ _ _ R1
  have RR := hid R1
  have hrd := hid C1.reads
  clear R1
  go_quiet (fail)
  have hX0 : 0 ≤ bits BinOp.xor IntKind.i64 (H / 8589934592) (H / 35184372088832) % 256 := by omega
  have hX1 : bits BinOp.xor IntKind.i64 (H / 8589934592) (H / 35184372088832) % 256 ≤ 255 := by omega
  generalize bits BinOp.xor IntKind.i64 (H / 8589934592) (H / 35184372088832) % 256 = X at *
  go_wp2
  go_quiet (fail)
  by_cases hlt : i < n
  · rcases hrd.out.cells with h0 | ⟨b, off, rfl, hc⟩
    · omega
    have d3 := hc i hlt
    have hb := hrd.out.bd i
    generalize zs.getD i 0 = y at d3 hb
    clear hc
    have hlt' : (i : Int) < (n : Int) := by omega
    have hi0 : (0 : Int) ≤ (i : Int) := by omega
    go_wp2
    go_quiet (fail)
    go_wp2
    go_ret
    refine ⟨_, rfl, by omega, by omega, ?_⟩
    generalize hq : w1.drewN _ = w2
    have hs : Still w1 w2 := by rw [← hq]; exact Still.drewN _ _
    have hg := grown_setCell w2 g 1 (.int .i64 ((i : Int) + 1))
    refine ⟨(C1.still hs).set hg (i + 1) H (by omega) ?_, grown_trans (grown_still G1 hs) hg⟩
    have h2 : w2.heap[g]? = some (.cells #[.slice (some ⟨b, off, none⟩) n cap, .int .i64 i, .int .i64 H] 53 (0, 0)) := by rw [hs.heap]; exact RR.out
    exact heap_setCell_same w2 g 1 _ 53 (.int .i64 ((i : Int) + 1)) h2
  · go_wp2
    go_ret
    exact ⟨_, rfl, hX0, hX1, C1.still ((Still.drewN _ _).trans (Still.drewN _ _)), grown_still G1 ((Still.drewN _ _).trans (Still.drewN _ _))⟩

set_option maxRecDepth 100000 in
set_option maxHeartbeats 1600000 in
theorem l1Below {w : World} {g : Nat} {ad : Option Addr} {n cap : Nat} {zs : List Int} (c : Cur w g ad n cap zs) (hn : n ≤ 2097152) (m : Int) (hm : 0 < m) (hm' : m ≤ 1000000) :
    Calls Try.prog 20 #[.pointer (some ⟨g, 0, none⟩), .int .i64 m] w fun e w' => ∃ x : Int, e = .returned (.int .i64 x) ∧ 0 ≤ x ∧ x < m ∧ Cur w' g ad n cap zs ∧ w.grownBy w' (some g) := by
  by_cases h256 : m ≤ 256
  · go_enter Try.func20, Try.ntmps20
    go_wp2_with fail
    refine (l1Byte c hn).mono ?_
    rintro e w1 ⟨x, rfl, hx0, hx1, c1, g1⟩
    have p0 := Int.emod_nonneg x (show m ≠ 0 by omega)
    have p1 := Int.emod_lt_of_pos x hm
    go_wp2_with fail
    go_ret
    exact ⟨_, rfl, p0, p1, c1, g1⟩
  · go_enter Try.func20, Try.ntmps20
    go_wp2_with fail
    refine (l1Byte c hn).mono ?_
    rintro e w1 ⟨x, rfl, hx0, hx1, c1, g1⟩
    go_wp2_with fail
    refine (l1Byte c1 hn).mono ?_
    rintro e w2 ⟨y, rfl, hy0, hy1, c2, g2⟩
    go_wp2_with fail
    refine (l1Byte c2 hn).mono ?_
    rintro e w3 ⟨z, rfl, hz0, hz1, c3, g3⟩
    go_wp2_with fail
    refine (l1Byte c3 hn).mono ?_
    rintro e w4 ⟨u, rfl, hu0, hu1, c4, g4⟩
    have p0 := Int.emod_nonneg (x * 16777216 + y * 65536 + z * 256 + u) (show m ≠ 0 by omega)
    have p1 := Int.emod_lt_of_pos (x * 16777216 + y * 65536 + z * 256 + u) hm
    go_wp2_with fail
    go_ret
    exact ⟨_, rfl, p0, p1, c4, grown_trans (grown_trans (grown_trans g1 g2) g3) g4⟩

theorem new_cur {w : World} {ad : Option Addr} {n : Nat} (cap : Nat) {zs : List Int} (h : Reads w ad n zs) (y : Int) (hl : ∀ a, ad = some a → 0 < n → a.block < w.heap.size) :
    Cur (w.alloc (.cells #[.slice ad n cap, .int .i64 0, .int .i64 y] 53)) w.heap.size ad n cap zs :=
  ⟨⟨0, y, Nat.zero_le _, heap_alloc_new w _⟩, h.below ((Below.refl _ _).alloc (Nat.le_refl _) _) (Nat.le_refl _), hl⟩

set_option maxRecDepth 100000 in
set_option maxHeartbeats 1600000 in
theorem l1New_pos {w : World} {b off n : Nat} (cap : Nat) {zs : List Int} (h : Reads w (some ⟨b, off, none⟩) n zs) (hn : n ≤ 2097152) (hn0 : 0 < n) :
    Calls Try.prog 19 #[.slice (some ⟨b, off, none⟩) n cap] w fun e w' => ∃ g, e = .returned (.pointer (some ⟨g, 0, none⟩)) ∧ w.heap.size ≤ g ∧ Cur w' g (some ⟨b, off, none⟩) n cap zs ∧ Below w.heap.size w w' := by
  obtain ⟨_, _, e, hc⟩ : ∃ b' off', (some ⟨b, off, none⟩ : Option Addr) = some ⟨b', off', none⟩ ∧ ∀ i, i < n → w.cell? ⟨b', off' + i, none⟩ = some (.int .u8 (zs.getD i 0)) := by
    rcases h.cells with h0 | h0
    · omega
    · exact h0
  cases e
  have ha := and30
  have HC := hid hc
  have hbw := World.block_lt_of_cell? w _ (hc 0 hn0)
  clear hc
  go_enter Try.func19, Try.ntmps19
  go_wp2
  go_loop [3, 4] (fun s i => ∃ (k : Nat) (y : Int), k ≤ n ∧ i = .int .i64 k ∧ s = .int .i64 y ∧ 0 ≤ y ∧ y ≤ 10000000000) (fun _ i => n - (intOf i).toNat)
  case atStart => exact ⟨0, _, by omega, rfl, rfl, by omega, by omega⟩
  case round =>
    obtain ⟨k, y, hk, rfl, rfl, hy0, hy1⟩ := hrel
    by_cases hlt : k < n ∧ k < 4000
    · obtain ⟨h1, h2⟩ := hlt
      have hcell := HC.out k h1
      have hb := h.bd k
      generalize zs.getD k 0 = c at hcell hb
      go_wp2
      go_round
      case rel => exact ⟨k + 1, _, by omega, by go_num, rfl, by omega, by omega⟩
      case measure => simp [intOf]; omega
    · by_cases h1 : k < n
      · have h2 : ¬ k < 4000 := by omega
        go_wp2
        go_ret
        exact ⟨w.heap.size, rfl, Nat.le_refl _, new_cur cap h y (fun a ha _ => by cases ha; exact hbw), (Below.refl _ _).alloc (Nat.le_refl _) _⟩
      · go_wp2
        go_ret
        exact ⟨w.heap.size, rfl, Nat.le_refl _, new_cur cap h y (fun a ha _ => by cases ha; exact hbw), (Below.refl _ _).alloc (Nat.le_refl _) _⟩

set_option maxRecDepth 100000 in
set_option maxHeartbeats 1600000 in
theorem l1New_zero {w : World} {ad : Option Addr} (cap : Nat) {zs : List Int} (h : Reads w ad 0 zs) :
    Calls Try.prog 19 #[.slice ad 0 cap] w fun e w' => ∃ g, e = .returned (.pointer (some ⟨g, 0, none⟩)) ∧ w.heap.size ≤ g ∧ Cur w' g ad 0 cap zs ∧ Below w.heap.size w w' := by
  go_enter Try.func19, Try.ntmps19
  go_wp2
  go_loop [3, 4] (fun s i => i = .int .i64 (0 : Nat) ∧ s = .int .i64 25252) (fun _ _ => 0)
  case atStart => exact ⟨rfl, rfl⟩
  case round =>
    obtain ⟨rfl, rfl⟩ := hrel
    go_wp2
    go_ret
    exact ⟨w.heap.size, rfl, Nat.le_refl _, new_cur cap h 25252 (fun a _ hp => absurd hp (Nat.lt_irrefl _)), (Below.refl _ _).alloc (Nat.le_refl _) _⟩

theorem l1New {w : World} {ad : Option Addr} {n : Nat} (cap : Nat) {zs : List Int} (h : Reads w ad n zs) (hn : n ≤ 2097152) :
    Calls Try.prog 19 #[.slice ad n cap] w fun e w' => ∃ g, e = .returned (.pointer (some ⟨g, 0, none⟩)) ∧ w.heap.size ≤ g ∧ Cur w' g ad n cap zs ∧ Below w.heap.size w w' := by
  by_cases h0 : n = 0
  · subst h0; exact l1New_zero cap h
  · obtain ⟨b, off, rfl⟩ := h.pos (by omega)
    exact l1New_pos cap h hn (by omega)

end Go.Proofs.Ytplbejipkaionaa
