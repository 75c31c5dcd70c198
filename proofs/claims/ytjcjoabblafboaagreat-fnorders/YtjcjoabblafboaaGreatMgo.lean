/- Texts of this proof in one: Draw Drawo Drawf Drl D5s Id D3k Sum Val Drn. -/
import Derived.Test.YtjcjoabblafboaaGreatMga
import Derived.WalkLawsBesides
import Derived.Deep.RegionHeld3
import Derived.Test.YtjcjoabblafboaaGreatMgb
import Derived.Laws.BitsAllLaws
/- The contracts of the draws' cursor: whatever the code, a byte is in 0 .. 255, a number below n is so. For codes of at most 2^21 bytes. -/




namespace Go.Proofs.YtjcjoabblafboaaGreat
open Go.RowKit
theorem and255 (n : Int) : bits .and .i64 n 255 = n % 256 := by
 have h255 : (BitVec.ofInt 64 255).toNat = 2 ^ 8 - 1 := by decide
 have key : (BitVec.ofInt 64 n &&& BitVec.ofInt 64 255).toNat = (n % ((2 ^ 64 : Nat) : Int)).toNat % 2 ^ 8 := by
  rw [BitVec.toNat_and, BitVec.toNat_ofInt, h255, Nat.and_two_pow_sub_one_eq_mod]
 show IntKind.i64.wrap ((BitVec.ofInt 64 n &&& BitVec.ofInt 64 255).toNat : Nat) = n % 256
 rw [key, IntKind.wrap_i64]
 omega
theorem and30 (n : Int) : bits .and .i64 n 1073741823 = n % 1073741824 := by
 have h255 : (BitVec.ofInt 64 1073741823).toNat = 2 ^ 30 - 1 := by decide
 have key : (BitVec.ofInt 64 n &&& BitVec.ofInt 64 1073741823).toNat = (n % ((2 ^ 64 : Nat) : Int)).toNat % 2 ^ 30 := by
  rw [BitVec.toNat_and, BitVec.toNat_ofInt, h255, Nat.and_two_pow_sub_one_eq_mod]
 show IntKind.i64.wrap ((BitVec.ofInt 64 n &&& BitVec.ofInt 64 1073741823).toNat : Nat) = n % 1073741824
 rw [key, IntKind.wrap_i64]
 omega
theorem grown_setCell (w : World) (g j : Nat) (v : Value) : w.grownBy (w.setCell ⟨g, j, none⟩ v) (some g) :=
 ⟨rfl, rfl, rfl, by simp [World.setCell], fun k _ hk => heap_setCell_other w ⟨g, j, none⟩ k v (fun e => hk (by simp [e]))⟩
theorem grown_still {a b c : World} {row : Option Nat} (h : a.grownBy b row) (k : Still b c) : a.grownBy c row :=
 ⟨k.os.trans h.os, k.tape.trans h.tape, k.output.trans h.output, by rw [k.heap]; exact h.size, fun i hi hr => by rw [k.heap]; exact h.block i hi hr⟩
structure Cur (w : World) (g : Nat) (ad : Option Addr) (n cap : Nat) (zs : List Int) : Prop where
 row : ∃ (i : Nat) (h : Int), i ≤ n ∧ w.heap[g]? = some (.cells #[.slice ad n cap, .int .i64 i, .int .i64 h] 131 (0, 0))
 reads : Reads w ad n zs
 low : ∀ a, ad = some a → 0 < n → a.block < g
theorem Cur.set {w w' : World} {g : Nat} {ad : Option Addr} {n cap : Nat} {zs : List Int} (c : Cur w g ad n cap zs) (hg : w.grownBy w' (some g)) (i : Nat) (h : Int) (hi : i ≤ n)
 (hr : w'.heap[g]? = some (.cells #[.slice ad n cap, .int .i64 i, .int .i64 h] 131 (0, 0))) : Cur w' g ad n cap zs := by
 refine ⟨⟨i, h, hi, hr⟩, ?_, c.low⟩
 by_cases h0 : n = 0
 · exact ⟨c.reads.len, .inl h0, c.reads.bd⟩
 · refine c.reads.other hg (fun a ha => ?_)
   have := c.low a ha (by omega)
   simp; omega
theorem Cur.still {w w' : World} {g : Nat} {ad : Option Addr} {n cap : Nat} {zs : List Int} (c : Cur w g ad n cap zs) (hs : Still w w') : Cur w' g ad n cap zs := by
 obtain ⟨i, h, hi, hr⟩ := c.row
 exact ⟨⟨i, h, hi, by rw [hs.heap]; exact hr⟩, hs.reads c.reads, c.low⟩
theorem Cur.below {w w' : World} {g : Nat} {ad : Option Addr} {n cap : Nat} {zs : List Int} (c : Cur w g ad n cap zs) {B : Nat} (hb : Below B w w') (hB : w.heap.size ≤ B) : Cur w' g ad n cap zs := by
 obtain ⟨i, h, hi, hr⟩ := c.row
 have := (Array.getElem?_eq_some_iff.1 hr).1
 exact ⟨⟨i, h, hi, by rw [hb.block g (by omega)]; exact hr⟩, c.reads.below hb hB, c.low⟩
theorem Cur.other {w w' : World} {g : Nat} {ad : Option Addr} {n cap : Nat} {zs : List Int} (c : Cur w g ad n cap zs) {row : Option Nat} (hg : w.grownBy w' row) (hr : ∀ k, row = some k → g < k) : Cur w' g ad n cap zs := by
 obtain ⟨i, h, hi, hrow⟩ := c.row
 have hlt := (Array.getElem?_eq_some_iff.1 hrow).1
 refine ⟨⟨i, h, hi, by rw [hg.block g hlt (fun e => by have := hr g e.symm; omega)]; exact hrow⟩, ?_, c.low⟩
 by_cases h0 : n = 0
 · exact ⟨c.reads.len, .inl h0, c.reads.bd⟩
 · refine c.reads.other hg (fun a ha e => ?_)
   have h1 := c.low a ha (by omega)
   have h2 := hr a.block e.symm
   omega
set_option maxRecDepth 100000 in
set_option maxHeartbeats 1600000 in
theorem l1Byte {w : World} {g : Nat} {ad : Option Addr} {n cap : Nat} {zs : List Int} (c : Cur w g ad n cap zs) (hn : n ≤ 2097152) :
 Calls Tryz.prog 129 #[.pointer (some ⟨g, 0, none⟩)] w fun e w' => ∃ x : Int, e = .returned (.int .i64 x) ∧ 0 ≤ x ∧ x ≤ 255 ∧ Cur w' g ad n cap zs ∧ w.grownBy w' (some g) := by
 obtain ⟨i, h, hi, hrow⟩ := c.row
 have c1 : w.cell? ⟨g, 2, none⟩ = some (.int .i64 h) := by rw [cell_of_row w _ _ _ _ _ hrow]; rfl
 have f1 : w.frozen? ⟨g, 2, none⟩ = false := frozen_of_row w _ _ _ _ hrow
 have HW := hid (fun v => heap_setCell_same w g 2 _ 131 v hrow)
 have ha := and255
 clear hrow
 go_enter Tryz.func129, Tryz.ntmps129
 go_wp2
 generalize wrap64 (wrap64 (h * 6364136223846793005) + 1442695040888963407) = H
 have R1 : (w.setCell ⟨g, 2, none⟩ (.int .i64 H)).heap[g]? = some (.cells #[.slice ad n cap, .int .i64 i, .int .i64 H] 131 (0, 0)) := HW.out (.int .i64 H)
 have G1 := grown_setCell w g 2 (.int .i64 H)
 have C1 := c.set G1 i H hi R1
 generalize w.setCell ⟨g, 2, none⟩ (.int .i64 H) = w1 at *
 clear HW c1 f1
 have d0 : w1.cell? ⟨g, 0, none⟩ = some (.slice ad n cap) := by rw [cell_of_row w1 _ _ _ _ _ R1]; rfl
 have d1 : w1.cell? ⟨g, 1, none⟩ = some (.int .i64 i) := by rw [cell_of_row w1 _ _ _ _ _ R1]; rfl
 have d2 : w1.cell? ⟨g, 2, none⟩ = some (.int .i64 H) := by rw [cell_of_row w1 _ _ _ _ _ R1]; rfl
 have f1 : w1.frozen? ⟨g, 1, none⟩ = false := frozen_of_row w1 _ _ _ _ R1
 have RR := hid R1
 have hrd := hid C1.reads
 clear R1
 go_quiet (fail)
 have hX0 : 0 ≤ bits BinOp.xor IntKind.i64 (H / 8589934592) (H / 35184372088832) % 256 := by omega
 have hX1 : bits BinOp.xor IntKind.i64 (H / 8589934592) (H / 35184372088832) % 256 ≤ 255 := by omega
 generalize bits BinOp.xor IntKind.i64 (H / 8589934592) (H / 35184372088832) % 256 = X at *
 go_wp2
 go_quiet (fail)
 by_cases hlt : i < n
 · rcases hrd.out.cells with h0 | ⟨b, off, rfl, hc⟩
   · omega
   have d3 := hc i hlt
   have hb := hrd.out.bd i
   generalize zs.getD i 0 = y at d3 hb
   clear hc
   have hlt' : (i : Int) < (n : Int) := by omega
   have hi0 : (0 : Int) ≤ (i : Int) := by omega
   go_wp2
   go_quiet (fail)
   go_wp2
   go_ret
   refine ⟨_, rfl, by omega, by omega, ?_⟩
   generalize hq : w1.drewN _ = w2
   have hs : Still w1 w2 := by rw [← hq]; exact Still.drewN _ _
   have hg := grown_setCell w2 g 1 (.int .i64 ((i : Int) + 1))
   refine ⟨(C1.still hs).set hg (i + 1) H (by omega) ?_, grown_trans (grown_still G1 hs) hg⟩
   have h2 : w2.heap[g]? = some (.cells #[.slice (some ⟨b, off, none⟩) n cap, .int .i64 i, .int .i64 H] 131 (0, 0)) := by rw [hs.heap]; exact RR.out
   exact heap_setCell_same w2 g 1 _ 131 (.int .i64 ((i : Int) + 1)) h2
 · go_wp2
   go_ret
   exact ⟨_, rfl, hX0, hX1, C1.still ((Still.drewN _ _).trans (Still.drewN _ _)), grown_still G1 ((Still.drewN _ _).trans (Still.drewN _ _))⟩
set_option maxRecDepth 100000 in
set_option maxHeartbeats 1600000 in
theorem l1Below {w : World} {g : Nat} {ad : Option Addr} {n cap : Nat} {zs : List Int} (c : Cur w g ad n cap zs) (hn : n ≤ 2097152) (m : Int) (hm : 0 < m) (hm' : m ≤ 1000000) :
 Calls Tryz.prog 79 #[.pointer (some ⟨g, 0, none⟩), .int .i64 m] w fun e w' => ∃ x : Int, e = .returned (.int .i64 x) ∧ 0 ≤ x ∧ x < m ∧ Cur w' g ad n cap zs ∧ w.grownBy w' (some g) := by
 by_cases h256 : m ≤ 256
 · go_enter Tryz.func79, Tryz.ntmps79
   go_wp2_with fail
   refine (l1Byte c hn).mono ?_
   rintro e w1 ⟨x, rfl, hx0, hx1, c1, g1⟩
   have p0 := Int.emod_nonneg x (show m ≠ 0 by omega)
   have p1 := Int.emod_lt_of_pos x hm
   go_wp2_with fail
   go_ret
   exact ⟨_, rfl, p0, p1, c1, g1⟩
 · go_enter Tryz.func79, Tryz.ntmps79
   go_wp2_with fail
   refine (l1Byte c hn).mono ?_
   rintro e w1 ⟨x, rfl, hx0, hx1, c1, g1⟩
   go_wp2_with fail
   refine (l1Byte c1 hn).mono ?_
   rintro e w2 ⟨y, rfl, hy0, hy1, c2, g2⟩
   go_wp2_with fail
   refine (l1Byte c2 hn).mono ?_
   rintro e w3 ⟨z, rfl, hz0, hz1, c3, g3⟩
   go_wp2_with fail
   refine (l1Byte c3 hn).mono ?_
   rintro e w4 ⟨u, rfl, hu0, hu1, c4, g4⟩
   have p0 := Int.emod_nonneg (x * 16777216 + y * 65536 + z * 256 + u) (show m ≠ 0 by omega)
   have p1 := Int.emod_lt_of_pos (x * 16777216 + y * 65536 + z * 256 + u) hm
   go_wp2_with fail
   go_ret
   exact ⟨_, rfl, p0, p1, c4, grown_trans (grown_trans (grown_trans g1 g2) g3) g4⟩
theorem new_cur {w : World} {ad : Option Addr} {n : Nat} (cap : Nat) {zs : List Int} (h : Reads w ad n zs) (y : Int) (hl : ∀ a, ad = some a → 0 < n → a.block < w.heap.size) :
 Cur (w.alloc (.cells #[.slice ad n cap, .int .i64 0, .int .i64 y] 131)) w.heap.size ad n cap zs :=
 ⟨⟨0, y, Nat.zero_le _, heap_alloc_new w _⟩, h.below ((Below.refl _ _).alloc (Nat.le_refl _) _) (Nat.le_refl _), hl⟩
set_option maxRecDepth 100000 in
set_option maxHeartbeats 1600000 in
theorem l1New_pos {w : World} {b off n : Nat} (cap : Nat) {zs : List Int} (h : Reads w (some ⟨b, off, none⟩) n zs) (hn : n ≤ 2097152) (hn0 : 0 < n) :
 Calls Tryz.prog 34 #[.slice (some ⟨b, off, none⟩) n cap] w fun e w' => ∃ g, e = .returned (.pointer (some ⟨g, 0, none⟩)) ∧ w.heap.size ≤ g ∧ Cur w' g (some ⟨b, off, none⟩) n cap zs ∧ Below w.heap.size w w' := by
 obtain ⟨_, _, e, hc⟩ : ∃ b' off', (some ⟨b, off, none⟩ : Option Addr) = some ⟨b', off', none⟩ ∧ ∀ i, i < n → w.cell? ⟨b', off' + i, none⟩ = some (.int .u8 (zs.getD i 0)) := by
  rcases h.cells with h0 | h0
  · omega
  · exact h0
 cases e
 have ha := and30
 have HC := hid hc
 have hbw := World.block_lt_of_cell? w _ (hc 0 hn0)
 clear hc
 go_enter Tryz.func34, Tryz.ntmps34
 go_wp2
 go_loop [3, 4] (fun s i => ∃ (k : Nat) (y : Int), k ≤ n ∧ i = .int .i64 k ∧ s = .int .i64 y ∧ 0 ≤ y ∧ y ≤ 10000000000) (fun _ i => n - (intOf i).toNat)
 case atStart => exact ⟨0, _, by omega, rfl, rfl, by omega, by omega⟩
 case round =>
  obtain ⟨k, y, hk, rfl, rfl, hy0, hy1⟩ := hrel
  by_cases hlt : k < n ∧ k < 4000
  · obtain ⟨h1, h2⟩ := hlt
    have hcell := HC.out k h1
    have hb := h.bd k
    generalize zs.getD k 0 = c at hcell hb
    go_wp2
    go_round
    case rel => exact ⟨k + 1, _, by omega, by go_num, rfl, by omega, by omega⟩
    case measure => simp [intOf]; omega
  · by_cases h1 : k < n
    · have h2 : ¬ k < 4000 := by omega
      go_wp2
      go_ret
      exact ⟨w.heap.size, rfl, Nat.le_refl _, new_cur cap h y (fun a ha _ => by cases ha; exact hbw), (Below.refl _ _).alloc (Nat.le_refl _) _⟩
    · go_wp2
      go_ret
      exact ⟨w.heap.size, rfl, Nat.le_refl _, new_cur cap h y (fun a ha _ => by cases ha; exact hbw), (Below.refl _ _).alloc (Nat.le_refl _) _⟩
set_option maxRecDepth 100000 in
set_option maxHeartbeats 1600000 in
theorem l1New_zero {w : World} {ad : Option Addr} (cap : Nat) {zs : List Int} (h : Reads w ad 0 zs) :
 Calls Tryz.prog 34 #[.slice ad 0 cap] w fun e w' => ∃ g, e = .returned (.pointer (some ⟨g, 0, none⟩)) ∧ w.heap.size ≤ g ∧ Cur w' g ad 0 cap zs ∧ Below w.heap.size w w' := by
 go_enter Tryz.func34, Tryz.ntmps34
 go_wp2
 go_loop [3, 4] (fun s i => i = .int .i64 (0 : Nat) ∧ s = .int .i64 25252) (fun _ _ => 0)
 case atStart => exact ⟨rfl, rfl⟩
 case round =>
  obtain ⟨rfl, rfl⟩ := hrel
  go_wp2
  go_ret
  exact ⟨w.heap.size, rfl, Nat.le_refl _, new_cur cap h 25252 (fun a _ hp => absurd hp (Nat.lt_irrefl _)), (Below.refl _ _).alloc (Nat.le_refl _) _⟩
theorem l1New {w : World} {ad : Option Addr} {n : Nat} (cap : Nat) {zs : List Int} (h : Reads w ad n zs) (hn : n ≤ 2097152) :
 Calls Tryz.prog 34 #[.slice ad n cap] w fun e w' => ∃ g, e = .returned (.pointer (some ⟨g, 0, none⟩)) ∧ w.heap.size ≤ g ∧ Cur w' g ad n cap zs ∧ Below w.heap.size w w' := by
 by_cases h0 : n = 0
 · subst h0; exact l1New_zero cap h
 · obtain ⟨b, off, rfl⟩ := h.pos (by omega)
   exact l1New_pos cap h hn (by omega)
end Go.Proofs.YtjcjoabblafboaaGreat
/- The contract of the draw of a yes or no. For codes of at most 2^21 bytes. -/

namespace Go.Proofs.YtjcjoabblafboaaGreat
open Go.RowKit
theorem grown_new {a b c : World} {g : Nat} {row : Option Nat} (h : a.grownBy b (some g)) (k : b.grownBy c row) (hr : ∀ r, row = some r → a.heap.size ≤ r) : a.grownBy c (some g) :=
 ⟨k.os.trans h.os, k.tape.trans h.tape, k.output.trans h.output, Nat.le_trans h.size k.size, fun i hi hne => (k.block i (Nat.lt_of_lt_of_le hi h.size) (fun e => by have := hr i e.symm; omega)).trans (h.block i hi hne)⟩
theorem bd_snoc {L : List Int} {y : Int} (hb : ∀ i, 0 ≤ L.getD i 0 ∧ L.getD i 0 ≤ 255) (h0 : 0 ≤ y) (h1 : y ≤ 255) : ∀ i, 0 ≤ (L ++ [y]).getD i 0 ∧ (L ++ [y]).getD i 0 ≤ 255 := by
 intro i
 by_cases h : i < L.length
 · have := hb i
   rwa [List.getD_eq_getElem?_getD, List.getElem?_append_left h, ← List.getD_eq_getElem?_getD]
 · rw [List.getD_eq_getElem?_getD, List.getElem?_append_right (by omega)]
   by_cases e : i - L.length = 0
   · rw [e]; simpa using ⟨h0, h1⟩
   · rw [List.getElem?_eq_none (by simp; omega)]; simp
def lenOf : Value → Nat | .slice _ n _ => n | _ => 0
theorem Cur.lt {w : World} {g : Nat} {ad : Option Addr} {n cap : Nat} {zs : List Int} (c : Cur w g ad n cap zs) : g < w.heap.size := by
 obtain ⟨i, h, _, hr⟩ := c.row
 exact (Array.getElem?_eq_some_iff.1 hr).1
theorem Cur.alloc {w : World} {g : Nat} {ad : Option Addr} {n cap : Nat} {zs : List Int} (c : Cur w g ad n cap zs) (o : Obj) : Cur (w.alloc o) g ad n cap zs :=
 c.below ((Below.refl w.heap.size w).alloc (Nat.le_refl _) o) (Nat.le_refl _)
set_option maxRecDepth 100000 in
set_option maxHeartbeats 1600000 in
theorem l1Once {w : World} {g : Nat} {ad : Option Addr} {n cap : Nat} {zs : List Int} (c : Cur w g ad n cap zs) (hn : n ≤ 2097152) (m : Int) (hm : 0 < m) (hm' : m ≤ 1000000) :
 Calls Tryz.prog 37 #[.pointer (some ⟨g, 0, none⟩), .int .i64 m] w fun e w' => ∃ b : Bool, e = .returned (.bool b) ∧ Cur w' g ad n cap zs ∧ w.grownBy w' (some g) := by
 go_enter Tryz.func37, Tryz.ntmps37
 go_wp2_with fail
 refine (l1Below c hn m hm hm').mono ?_
 rintro e w1 ⟨x, rfl, hx0, hx1, c1, g1⟩
 generalize hb : (x == 0) = b
 go_wp2_with fail
 go_ret
 exact ⟨_, rfl, c1, g1⟩
end Go.Proofs.YtjcjoabblafboaaGreat
/- The contract of the draw of some bytes. For codes of at most 2^21 bytes. -/

namespace Go.Proofs.YtjcjoabblafboaaGreat
open Go.RowKit
end Go.Proofs.YtjcjoabblafboaaGreat
/- The contracts of the draws of floats: whatever the code, some float. For codes of at most 2^21 bytes. -/


namespace Go.Proofs.YtjcjoabblafboaaGreat
open Go.RowKit
theorem u64_rng (n : Int) : 0 ≤ IntKind.u64.wrap n ∧ IntKind.u64.wrap n < 18446744073709551616 := by
 have e : IntKind.u64.wrap n = n % 18446744073709551616 := by simp [IntKind.wrap, IntKind.bits, IntKind.signed]
 rw [e]; omega
theorem bits_rng (op : BinOp) (a b : Int) (h : op = .or ∨ op = .and ∨ op = .xor) : 0 ≤ bits op .u64 a b ∧ bits op .u64 a b < 18446744073709551616 := by
 rcases h with rfl | rfl | rfl <;> exact u64_rng _
theorem ofInt_lt (z : Int) : floatOfInt .f64 z < 18446744073709551616 := by
 have := floatOfInt_wf .f64 z
 simpa [Lit.wf] using this
set_option maxRecDepth 100000 in
set_option maxHeartbeats 3200000 in
theorem l2bits {w : World} {g : Nat} {ad : Option Addr} {n cap : Nat} {zs : List Int} (c : Cur w g ad n cap zs) (hn : n ≤ 2097152) :
 Calls Tryz.prog 174 #[.pointer (some ⟨g, 0, none⟩)] w fun e w' => ∃ x : Int, e = .returned (.int .u64 x) ∧ 0 ≤ x ∧ x < 18446744073709551616 ∧ Cur w' g ad n cap zs ∧ w.grownBy w' (some g) := by
 go_enter Tryz.func174, Tryz.ntmps174
 go_wp2_with fail
 go_loopw [3, 4] (fun s i wr => ∃ (k : Nat) (y : Int), k ≤ 8 ∧ i = .int .i64 k ∧ s = .int .u64 y ∧ 0 ≤ y ∧ y < 18446744073709551616 ∧ Cur wr g ad n cap zs ∧ w.grownBy wr (some g)) (fun _ i _ => 8 - (intOf i).toNat)
 case atStart => exact ⟨0, 0, by omega, rfl, rfl, by omega, by omega, c, grown_refl _ _⟩
 case round =>
  obtain ⟨k, y, hk, rfl, rfl, hy0, hy1, cr, gr⟩ := hrel
  by_cases hlt : k < 8
  · go_wp2_with fail
    refine (l1Byte cr hn).mono ?_
    rintro e w2 ⟨b, rfl, hb0, hb1, c2, g2⟩
    go_wp2_with fail
    go_roundw
    case rel => exact ⟨k + 1, _, by omega, by go_num, rfl, (u64_rng _).1, (u64_rng _).2, c2, grown_trans gr g2⟩
    case measure => simp [intOf]; omega
  · go_wp2_with fail
    refine (l1Below cr hn 9 (by omega) (by omega)).mono ?_
    rintro e w2 ⟨t, rfl, ht0, ht1, c2, g2⟩
    have G2 := grown_trans gr g2
    clear cr gr g2 c hlt
    by_cases t0 : t = 0
    · subst t0
      go_wp2_with fail
      refine (l1Below c2 hn 2 (by omega) (by omega)).mono ?_
      rintro e w3 ⟨p, rfl, hp0, hp1, c3, g3⟩
      go_wp2_with fail
      refine (l1Below c3 hn 3 (by omega) (by omega)).mono ?_
      rintro e w4 ⟨q, rfl, hq0, hq1, c4, g4⟩
      go_wp2_with fail
      go_ret
      exact ⟨_, rfl, (bits_rng .or _ _ (by simp)).1, (bits_rng .or _ _ (by simp)).2, c4, grown_trans (grown_trans G2 g3) g4⟩
    by_cases t1 : t = 1
    · subst t1
      go_wp2_with fail
      refine (l1Below c2 hn 2 (by omega) (by omega)).mono ?_
      rintro e w3 ⟨p, rfl, hp0, hp1, c3, g3⟩
      go_wp2_with fail
      refine (l1Below c3 hn 3 (by omega) (by omega)).mono ?_
      rintro e w4 ⟨q, rfl, hq0, hq1, c4, g4⟩
      go_wp2_with fail
      go_ret
      exact ⟨_, rfl, (bits_rng .or _ _ (by simp)).1, (bits_rng .or _ _ (by simp)).2, c4, grown_trans (grown_trans G2 g3) g4⟩
    by_cases t2 : t = 2
    · subst t2
      go_wp2_with fail
      refine (l1Below c2 hn 2 (by omega) (by omega)).mono ?_
      rintro e w3 ⟨p, rfl, hp0, hp1, c3, g3⟩
      go_wp2_with fail
      go_ret
      exact ⟨_, rfl, (bits_rng .or _ _ (by simp)).1, (bits_rng .or _ _ (by simp)).2, c3, grown_trans G2 g3⟩
    by_cases t3 : t = 3
    · subst t3
      go_wp2_with fail
      refine (l1Below c2 hn 2 (by omega) (by omega)).mono ?_
      rintro e w3 ⟨p, rfl, hp0, hp1, c3, g3⟩
      go_wp2_with fail
      refine (l1Below c3 hn 3 (by omega) (by omega)).mono ?_
      rintro e w4 ⟨q, rfl, hq0, hq1, c4, g4⟩
      go_wp2_with fail
      go_ret
      exact ⟨_, rfl, (bits_rng .or _ _ (by simp)).1, (bits_rng .or _ _ (by simp)).2, c4, grown_trans (grown_trans G2 g3) g4⟩
    by_cases t4 : t = 4
    · subst t4
      go_wp2_with fail
      refine (l1Below c2 hn 12 (by omega) (by omega)).mono ?_
      rintro e w3 ⟨p, rfl, hp0, hp1, c3, g3⟩
      go_wp2_with fail
      refine (l1Below c3 hn 16 (by omega) (by omega)).mono ?_
      rintro e w4 ⟨q, rfl, hq0, hq1, c4, g4⟩
      go_wp2_with fail
      go_ret
      exact ⟨_, rfl, (bits_rng .or _ _ (by simp)).1, (bits_rng .or _ _ (by simp)).2, c4, grown_trans (grown_trans G2 g3) g4⟩
    by_cases t5 : t = 5
    · subst t5
      go_wp2_with fail
      refine (l1Below c2 hn 21 (by omega) (by omega)).mono ?_
      rintro e w3 ⟨p, rfl, hp0, hp1, c3, g3⟩
      have hwf := ofInt_lt (p - 10)
      go_wp2_with fail
      refine (spec_FloatBits _ hwf _).mono ?_
      rintro e w4 ⟨rfl, rfl⟩
      have hb := fbits_lt _ hwf
      go_wp2_with fail
      go_ret
      exact ⟨_, rfl, by omega, by omega, c3, grown_trans G2 g3⟩
    have n0 : (t == 0) = false := beq_eq_false_iff_ne.2 t0
    have n1 : (t == 1) = false := beq_eq_false_iff_ne.2 t1
    have n2 : (t == 2) = false := beq_eq_false_iff_ne.2 t2
    have n3 : (t == 3) = false := beq_eq_false_iff_ne.2 t3
    have n4 : (t == 4) = false := beq_eq_false_iff_ne.2 t4
    have n5 : (t == 5) = false := beq_eq_false_iff_ne.2 t5
    clear t0 t1 t2 t3 t4 t5
    go_wp2_with fail
    go_ret
    exact ⟨_, rfl, hy0, hy1, c2, G2⟩
theorem l2float {w : World} {g : Nat} {ad : Option Addr} {n cap : Nat} {zs : List Int} (c : Cur w g ad n cap zs) (hn : n ≤ 2097152) :
 Calls Tryz.prog 132 #[.pointer (some ⟨g, 0, none⟩)] w fun e w' => ∃ y : Nat, e = .returned (.float .f64 y) ∧ y < 18446744073709551616 ∧ Cur w' g ad n cap zs ∧ w.grownBy w' (some g) := by
 go_enter Tryz.func132, Tryz.ntmps132
 go_wp2_with fail
 refine (l2bits c hn).mono ?_
 rintro e w1 ⟨x, rfl, hx0, hx1, c1, g1⟩
 obtain ⟨b, rfl⟩ := Int.eq_ofNat_of_zero_le hx0
 have hb : b < 18446744073709551616 := by omega
 clear hx0 hx1
 go_wp2_with fail
 refine (spec_FloatOf b hb _).mono ?_
 rintro e w2 ⟨y, rfl, hy, _, _, st⟩
 go_wp2_with fail
 go_ret
 exact ⟨y, rfl, hy, c1.still st, grown_still g1 st⟩
end Go.Proofs.YtjcjoabblafboaaGreat
/- The contract of the draw of some bytes, told a nil where there are none. For codes of at most 2^21 bytes. -/

namespace Go.Proofs.YtjcjoabblafboaaGreat
open Go.RowKit
set_option maxRecDepth 100000 in
set_option maxHeartbeats 3200000 in
theorem l1some2 {w : World} {g : Nat} {ad : Option Addr} {n cap : Nat} {zs : List Int} (c : Cur w g ad n cap zs) (hn : n ≤ 2097152) (most : Int) (h0 : 0 ≤ most) (hm : most ≤ 1000) :
 Calls Tryz.prog 133 #[.pointer (some ⟨g, 0, none⟩), .int .i64 most] w fun e w' => ∃ (v : Value) (L : List Int), e = .returned v ∧ w'.ownsRow w.heap.size 5 1 v L.length (bys L) ∧ (∀ i, 0 ≤ L.getD i 0 ∧ L.getD i 0 ≤ 255) ∧ L.length ≤ 1000 ∧ (L.length = 0 → v = .slice none 0 0) ∧ Cur w' g ad n cap zs ∧ w.grownBy w' (some g) := by
 obtain ⟨i0, hi, hz0, hz1, hz2⟩ := info_parts Tryz.info5
 have hgl := c.lt
 go_enter Tryz.func133, Tryz.ntmps133
 go_wp2_with fail
 refine (l1Below c hn (most + 1) (by omega) (by omega)).mono ?_
 rintro e w1 ⟨x, rfl, hx0, hx1, c1, g1⟩
 obtain ⟨x, rfl⟩ := Int.eq_ofNat_of_zero_le hx0
 clear c
 go_wp2_with fail
 go_loopw [5, 7] (fun v i wr => ∃ (k : Nat) (L : List Int), k ≤ x ∧ i = .int .i64 k ∧ L.length = k ∧ wr.ownsRow w.heap.size 5 1 v k (bys L) ∧ (∀ i, 0 ≤ L.getD i 0 ∧ L.getD i 0 ≤ 255) ∧ Hid (L.length = 0 → v = .slice none 0 0) ∧ Cur wr g ad n cap zs ∧ w.grownBy wr (some g)) (fun _ i _ => x - (intOf i).toNat)
 case atStart => exact ⟨0, [], by omega, rfl, rfl, World.ownsRow_nil _ _ _ _, by simp, hid (fun _ => rfl), c1, g1⟩
 case round =>
  obtain ⟨k, L, hk, rfl, hL, hown, hbd, hnl, cr, gr⟩ := hrel
  by_cases hlt : k < x
  · clear c1 g1
    go_wp2_with fail
    refine (l1Byte cr hn).mono ?_
    rintro e w2 ⟨y, rfl, hy0, hy1, c2, g2⟩
    have o2 := hown.kept g2 (by
     cases hv : u5.ownBlock with
     | none => exact .inl rfl
     | some r => exact .inr (by have := hown.lt r hv; simp; omega))
    have z2 : w.heap.size ≤ w2.heap.size := Nat.le_trans gr.size g2.size
    have G2 := grown_trans gr g2
    clear hown cr gr g2
    go_wp2_with (at_builtin; refine wpList_append_own _ rfl _ _ 22 rfl w.heap.size 5 i0 (.int .u8 0) 1 1 Tryz.underlying22 hi hz0 hz1 hz2 rfl (by decide) _ _ _ rfl (o2.alloc _) ⟨w2.heap.size, 0, none⟩ 1 1 [.int .u8 y] rfl rfl (cell_one_new _ _ _) ?c2 ?c3 ?c4 ?c5 ?_)
    case c2 => intro u hu; simp at hu; subst hu; rfl
    case c3 => unfold maxLen; omega
    case c4 => omega
    case c5 => simp; omega
    intro v' w3 o3 g3 _
    have G3 : w.grownBy w3 (some g) := grown_new (grown_new G2 (World.grownBy_alloc w2 _ none) (fun r hr => by cases hr)) g3 (fun r hr => (o2.lt r hr).1)
    have c3 := (c2.alloc (.cells #[.int .u8 y] 5)).other g3 (fun r hr => by have := (o2.lt r hr).1; omega)
    have O3 := hid o3
    clear g3 o3 o2 c2 G2
    go_wp2_with fail
    go_roundw
    case rel => exact ⟨k + 1, L ++ [y], by omega, by go_num, by rw [List.length_append, hL]; rfl, by rw [bys_append]; exact O3.out, bd_snoc hbd hy0 hy1, hid (fun h => by simp at h), c3, G3⟩
    case measure => simp [intOf]; omega
  · go_wp2_with fail
    go_ret
    exact ⟨_, L, rfl, by rw [hL]; exact hown, hbd, by omega, hnl.out, cr, gr⟩
end Go.Proofs.YtjcjoabblafboaaGreat
/- The contract of the specification's ItemClean. Conditions: texts of at most 2^21 bytes. -/

namespace Go.Proofs.YtjcjoabblafboaaGreat
open Go.RowKit
def cleanF (f : Nat) : Nat := if f = 9223372036854775808 then 0 else f
set_option maxRecDepth 100000 in
set_option maxHeartbeats 3200000 in
theorem spec_ItemClean_no (K N : Int) (f : Nat) (ad : Option Addr) (n cap : Nat) (hf : f < 18446744073709551616) (hn : n ≤ 2097152) (hok : okI K N f n = false) (w : World) :
 Calls Tryz.prog 131 #[.agg #[.int .i64 K, .int .i64 N, .float .f64 f, .slice ad n cap]] w fun e w' => e = .returned (.agg #[.int .i64 0, .int .i64 0, .float .f64 0, .slice none 0 0]) ∧ Below w.heap.size w w' := by
 have hI := spec_ItemOk K N f ad n cap hf hn
 rw [hok] at hI
 have hB := two w (.cells #[.int .i64 K, .int .i64 N, .float .f64 f, .slice ad n cap] 72) (.cells #[.int .i64 0, .int .i64 0, .float .f64 0, .slice none 0 0] 72)
 have z1 := alloc_size w (.cells #[.int .i64 K, .int .i64 N, .float .f64 f, .slice ad n cap] 72)
 have z2 := alloc_size (w.alloc (.cells #[.int .i64 K, .int .i64 N, .float .f64 f, .slice ad n cap] 72)) (.cells #[.int .i64 0, .int .i64 0, .float .f64 0, .slice none 0 0] 72)
 have R1 := heap_alloc_new (w.alloc (.cells #[.int .i64 K, .int .i64 N, .float .f64 f, .slice ad n cap] 72)) (.cells #[.int .i64 0, .int .i64 0, .float .f64 0, .slice none 0 0] 72)
 rw [z1] at z2 R1
 have H1 := hid R1
 have HZ := hid z2
 have HB := hid hB
 clear R1 z2 z1 hB
 go_enter Tryz.func131, Tryz.ntmps131
 go_wp2_with fail
 refine (hI _).mono ?_
 rintro e w1 ⟨rfl, b1⟩
 have hz := HZ.out
 have S1 := (b1.block (w.heap.size + 1) (by omega)).trans H1.out
 have B1 := HB.out.trans (b1.mono HB.out.size)
 have T1 := hid S1
 clear S1 b1 hz HZ HB H1
 go_wp2_with (first
  | (refine wpList_store_row rfl 72 (.tmp 2) (.tmp 7) rfl (w.heap.size + 1) #[.int .i64 0, .int .i64 0, .float .f64 0, .slice none 0 0] rfl rfl 72 _ T1.out ?s1 ?s2 ?s3 ?_))
 case s1 => exact size72
 case s2 => rfl
 case s3 => simp [Value.oneCell']
 exact bodyPost_ret (results_cell_row Tryz.results131 _ _ (w.heap.size + 1) 72 _ (0, 0) _ rfl (setRow_heap _ _ _ _ _ _ T1.out) Tryz.underlying72 rfl size72) rfl ⟨rfl, below_setRow B1 (by omega) _⟩
set_option maxRecDepth 100000 in
set_option maxHeartbeats 3200000 in
theorem spec_ItemClean_yes (K N : Int) (f : Nat) {ad : Option Addr} {n : Nat} (cap : Nat) (hnil : ad = none → cap = 0) {zs : List Int} {w : World} (h : Reads w ad n zs) (hf : f < 18446744073709551616) (hn : n ≤ 2097152) (hok : okI K N f n = true) :
 Calls Tryz.prog 131 #[.agg #[.int .i64 K, .int .i64 N, .float .f64 f, .slice ad n cap]] w fun e w' => ∃ v, e = .returned (.agg #[.int .i64 K, .int .i64 N, .float .f64 (cleanF f), v]) ∧ w'.ownsRow w.heap.size 5 1 v n (bys zs) ∧ Below w.heap.size w w' := by
 have hI := spec_ItemOk K N f ad n cap hf hn
 rw [hok] at hI
 have hbd := h.bd
 have hst := fun w a m => run_store Tryz.prog w a (.float .f64 f) m rfl
 have hst0 := fun w a m => run_store Tryz.prog w a (.float .f64 0) m rfl
 have hB := two w (.cells #[.int .i64 K, .int .i64 N, .float .f64 f, .slice ad n cap] 72) (.cells #[.int .i64 0, .int .i64 0, .float .f64 0, .slice none 0 0] 72)
 have z1 := alloc_size w (.cells #[.int .i64 K, .int .i64 N, .float .f64 f, .slice ad n cap] 72)
 have z2 := alloc_size (w.alloc (.cells #[.int .i64 K, .int .i64 N, .float .f64 f, .slice ad n cap] 72)) (.cells #[.int .i64 0, .int .i64 0, .float .f64 0, .slice none 0 0] 72)
 have R1 := heap_alloc_new (w.alloc (.cells #[.int .i64 K, .int .i64 N, .float .f64 f, .slice ad n cap] 72)) (.cells #[.int .i64 0, .int .i64 0, .float .f64 0, .slice none 0 0] 72)
 have X0 := (Box.new w K N f ad n cap 72).below ((Below.refl (w.heap.size + 1) _).alloc (by omega) (.cells #[.int .i64 0, .int .i64 0, .float .f64 0, .slice none 0 0] 72)) (by omega)
 rw [z1] at z2 R1
 have h0 := h.below hB (Nat.le_refl _)
 have H1 := hid R1
 have HZ := hid z2
 have HB := hid hB
 have HX := hid X0
 have HR := hid h0
 clear R1 z2 z1 hB X0 h0 h
 go_enter Tryz.func131, Tryz.ntmps131
 go_wp2_with fail
 refine (hI _).mono ?_
 rintro e w1 ⟨rfl, b1⟩
 have hz := HZ.out
 have S1 := hid ((b1.block (w.heap.size + 1) (by omega)).trans H1.out)
 have B1 := hid (HB.out.trans (b1.mono HB.out.size))
 have X1 := hid (HX.out.below b1 (by omega))
 have r1 := hid (HR.out.below b1 (Nat.le_refl _))
 have Z1 := hid (show w.heap.size + 1 < w1.heap.size by have := b1.size; omega)
 clear b1 hz HZ HB H1 HX HR
 obtain ⟨c0, c1, c2, c3⟩ := X1.out
 go_wp2_with fail
 clear c0 c1 c2 c3
 refine (spec_l3copy K N f cap hnil r1.out hn).mono ?_
 rintro e w2 ⟨v, rfl, o2, b2⟩
 have hz := Z1.out
 obtain ⟨ad2, cap2, rfl, r2, d2⟩ := Reads.own o2 hbd
 have S2 := hid ((b2.block (w.heap.size + 1) (by omega)).trans S1.out)
 have B2 := hid (B1.out.trans (b2.mono B1.out.size))
 have X2 := hid (X1.out.below b2 (by omega))
 have Z2 := hid (show w.heap.size + 1 < w2.heap.size by have := b2.size; omega)
 have O2 := hid o2
 clear b2 hz S1 B1 X1 r1 o2 d2 r2
 obtain ⟨c0, c1, c2, c3⟩ := X2.out
 by_cases hz : f = 0 ∨ f = 9223372036854775808
 · have hc := hid (show cleanF f = 0 by rw [cleanF]; split <;> omega)
   have o : FloatKind.f64.format.order f 0 = some .eq := by rcases hz with rfl | rfl <;> decide
   have zz := Z2.out
   have T1 := hid ((alloc_old w2 (.cells #[.int .i64 K, .int .i64 N, .float .f64 0, .slice ad2 n cap2] 72) (w.heap.size + 1) (by omega)).trans S2.out)
   have BA := hid (B2.out.alloc (show w.heap.size ≤ w2.heap.size by omega) (.cells #[.int .i64 K, .int .i64 N, .float .f64 0, .slice ad2 n cap2] 72))
   have OA := hid (O2.out.alloc (.cells #[.int .i64 K, .int .i64 N, .float .f64 0, .slice ad2 n cap2] 72))
   have zz0 : w.heap.size < w2.heap.size := by omega
   have ne0 : ¬ w.heap.size = w2.heap.size := by omega
   clear S2 B2 O2 hz X2
   go_wp2_with (first
    | (refine wpList_store_row rfl 72 (.tmp 2) (.tmp 14) rfl (w.heap.size + 1) #[.int .i64 K, .int .i64 N, .float .f64 0, .slice ad2 n cap2] rfl rfl 72 _ T1.out ?s1 ?s2 ?s3 ?_))
   case s1 => exact size72
   case s2 => rfl
   case s3 => simp [Value.oneCell']
   refine bodyPost_ret (results_cell_row Tryz.results131 _ _ (w.heap.size + 1) 72 _ (0, 0) _ rfl (setRow_heap _ _ _ _ _ _ T1.out) Tryz.underlying72 rfl size72) rfl ⟨.slice ad2 n cap2, by rw [hc.out], owns_base (owns_at OA.out fun k hk => ?_) (by have := Z1.out; omega), below_setRow BA.out (by omega) _⟩
   exact setRow_other _ _ _ _ (by have := Z1.out; omega)
 · have hc := hid (show cleanF f = f by rw [cleanF, if_neg (by omega)])
   have o : FloatKind.f64.format.order f 0 = some .lt ∨ FloatKind.f64.format.order f 0 = some .gt ∨ FloatKind.f64.format.order f 0 = none := by
    by_cases hN : isN f = true
    · exact .inr (.inr (order_l f 0 hf hN))
    · have hN' : isN f = false := by simpa using hN
      have hm := (isN_not f).1 hN'
      by_cases hp : f < 9223372036854775808
      · exact .inr (.inl (order_gt f 0 hf (by omega) hN' isN_zero (by rw [kx_zero, kx, if_pos hp]; omega)))
      · exact .inl (order_lt f 0 hf (by omega) hN' isN_zero (by rw [kx_zero, kx, if_neg hp]; omega))
   rcases o with o | o | o
   all_goals
    have zz := Z2.out
    have T1 := hid ((alloc_old w2 (.cells #[.int .i64 K, .int .i64 N, .float .f64 f, .slice ad2 n cap2] 72) (w.heap.size + 1) (by omega)).trans S2.out)
    have BA := hid (B2.out.alloc (show w.heap.size ≤ w2.heap.size by omega) (.cells #[.int .i64 K, .int .i64 N, .float .f64 f, .slice ad2 n cap2] 72))
    have OA := hid (O2.out.alloc (.cells #[.int .i64 K, .int .i64 N, .float .f64 f, .slice ad2 n cap2] 72))
    have zz0 : w.heap.size < w2.heap.size := by omega
    have ne0 : ¬ w.heap.size = w2.heap.size := by omega
    clear S2 B2 O2 hz X2
    go_wp2_with (first
     | (refine wpList_store_row rfl 72 (.tmp 2) (.tmp 14) rfl (w.heap.size + 1) #[.int .i64 K, .int .i64 N, .float .f64 f, .slice ad2 n cap2] rfl rfl 72 _ T1.out ?s1 ?s2 ?s3 ?_))
    case s1 => exact size72
    case s2 => rfl
    case s3 => simp [Value.oneCell']
    refine bodyPost_ret (results_cell_row Tryz.results131 _ _ (w.heap.size + 1) 72 _ (0, 0) _ rfl (setRow_heap _ _ _ _ _ _ T1.out) Tryz.underlying72 rfl size72) rfl ⟨.slice ad2 n cap2, by rw [hc.out], owns_base (owns_at OA.out fun k hk => ?_) (by have := Z1.out; omega), below_setRow BA.out (by omega) _⟩
    exact setRow_other _ _ _ _ (by have := Z1.out; omega)
end Go.Proofs.YtjcjoabblafboaaGreat
/- The contract of the draw of a key. For codes of at most 2^21 bytes. -/




namespace Go.Proofs.YtjcjoabblafboaaGreat
open Go.RowKit
theorem quo_run (t : TypeId) (s x : Nat) (w : World) :
 ∃ y w', (binOp .quo t (.float .f64 s) (.float .f64 x)).run Tryz.prog w = .ok (.float .f64 y) w' ∧ y < 18446744073709551616 ∧ Hid (Still w w') := by
 cases hb : floatBits .quo .f64 s x with
 | none =>
  obtain ⟨n, h1, h2, h3⟩ := nan_run .quo t s x (by simp) hb w
  exact ⟨n, _, h1, h3, hid (Still.drew w)⟩
 | some r =>
  have hr : r < 18446744073709551616 := by have := floatBits_wf hb; simpa [Lit.wf] using this
  exact ⟨r, w, run_float_arith w .quo t .f64 s x r hb, hr, hid (Still.refl w)⟩
theorem cleanF_lt {f : Nat} (h : f < 18446744073709551616) : cleanF f < 18446744073709551616 := by
 unfold cleanF; split <;> omega
theorem sizeIt : (Tryz.prog.info? 72).map (·.size) = some 4 := by kernel_rfl
structure AnsI (M : Nat) (w : World) (g : Nat) (ad : Option Addr) (n cap : Nat) (zs : List Int) (e : Ending) (w' : World) : Prop where
 ex : ∃ K N f v D, e = .returned (.agg #[.int .i64 K, .int .i64 N, .float .f64 f, v]) ∧ w'.ownsRow w.heap.size 5 1 v D.length (bys D) ∧ (∀ i, 0 ≤ D.getD i 0 ∧ D.getD i 0 ≤ 255) ∧ D.length ≤ M ∧ (-9223372036854775808 ≤ N ∧ N ≤ 9223372036854775807) ∧ f < 18446744073709551616 ∧ Cur w' g ad n cap zs ∧ w.grownBy w' (some g)
theorem finI {M : Nat} {w U wr : World} {g q0 : Nat} {ad : Option Addr} {n cap : Nat} {zs : List Int} {K N : Int} {f : Nat} {v : Value} {D : List Int} {zc : Array Value} (G0 : w.grownBy U none) (hq : w.heap.size = q0) (hz : U.heap.size = q0 + 1) (T0 : U.heap[q0]? = some (.cells zc 72)) (hgl : g < q0)
 (gr : U.grownBy wr (some g)) (cr : Cur wr g ad n cap zs) (o : wr.ownsRow U.heap.size 5 1 v D.length (bys D)) (hb : ∀ i, 0 ≤ D.getD i 0 ∧ D.getD i 0 ≤ 255) (hM : D.length ≤ M) (hN : -9223372036854775808 ≤ N ∧ N ≤ 9223372036854775807) (hf : f < 18446744073709551616) :
 wr.heap[q0]? = some (.cells zc 72) ∧ AnsI M w g ad n cap zs (.returned (.agg #[.int .i64 K, .int .i64 N, .float .f64 f, v])) (wr.setRow q0 #[.int .i64 K, .int .i64 N, .float .f64 f, v]) := by
 have T1 : wr.heap[q0]? = some (.cells zc 72) := (gr.block q0 (by omega) (by simp; omega)).trans T0
 refine ⟨T1, ?_⟩
 have hU : w.grownBy U (some g) := ⟨G0.os, G0.tape, G0.output, G0.size, fun k hk _ => G0.block k hk (by simp)⟩
 have hg : wr.grownBy (wr.setRow q0 #[.int .i64 K, .int .i64 N, .float .f64 f, v]) (some q0) := ⟨rfl, rfl, rfl, by simp, fun q _ hq => setRow_other _ _ _ _ (fun e => hq (by rw [e]))⟩
 exact ⟨K, N, f, v, D, rfl, owns_lower (o.kept hg (oty_ne o T1 (by decide))) (by omega), hb, hM, hN, hf, cr.other hg (fun q hq => by cases hq; exact hgl), grown_new (grown_trans hU gr) hg (fun r hr => by cases hr; omega)⟩
theorem below_grown {w w' : World} (b : Below w.heap.size w w') : w.grownBy w' none := ⟨b.os, b.tape, b.output, b.size, fun k hk _ => b.block k hk⟩
theorem clean_any (K N : Int) (f : Nat) {ad : Option Addr} {n : Nat} (cap : Nat) (hnil : ad = none → cap = 0) {zs : List Int} {w : World} (h : Reads w ad n zs) (hf : f < 18446744073709551616) (hn : n ≤ 2097152) (hN : -9223372036854775808 ≤ N ∧ N ≤ 9223372036854775807) :
 Calls Tryz.prog 131 #[.agg #[.int .i64 K, .int .i64 N, .float .f64 f, .slice ad n cap]] w fun e w' => ∃ K' N' f' v D, e = .returned (.agg #[.int .i64 K', .int .i64 N', .float .f64 f', v]) ∧ w'.ownsRow w.heap.size 5 1 v D.length (bys D) ∧ (∀ i, 0 ≤ D.getD i 0 ∧ D.getD i 0 ≤ 255) ∧ D.length ≤ n ∧ (-9223372036854775808 ≤ N' ∧ N' ≤ 9223372036854775807) ∧ f' < 18446744073709551616 ∧ Below w.heap.size w w' := by
 by_cases hok : okI K N f n = true
 · refine (spec_ItemClean_yes K N f cap hnil h hf hn hok).mono ?_
   rintro e w' ⟨v, rfl, o, b⟩
   have hl := h.len
   subst hl
   exact ⟨K, N, _, v, zs, rfl, o, h.bd, Nat.le_refl _, hN, cleanF_lt hf, b⟩
 · refine (spec_ItemClean_no K N f ad n cap hf hn (by simpa using hok) w).mono ?_
   rintro e w' ⟨rfl, b⟩
   exact ⟨0, 0, 0, _, [], rfl, World.ownsRow_nil _ _ _ _, by simp, Nat.zero_le _, by omega, by omega, b⟩
set_option maxRecDepth 100000 in
set_option maxHeartbeats 12800000 in
theorem l3key {w : World} {g : Nat} {ad : Option Addr} {n cap : Nat} {zs : List Int} (c : Cur w g ad n cap zs) (hn : n ≤ 2097152) :
 Calls Tryz.prog 81 #[.pointer (some ⟨g, 0, none⟩)] w fun e w' => AnsI 1000 w g ad n cap zs e w' := by
 have hgl := c.lt
 go_enter Tryz.func81, Tryz.ntmps81
 go_wp2_with fail
 have c0 := c.alloc (.cells #[.int .i64 0, .int .i64 0, .float .f64 0, .slice none 0 0] 72)
 have G0 := hid (show w.grownBy (w.alloc (.cells #[.int .i64 0, .int .i64 0, .float .f64 0, .slice none 0 0] 72)) none from World.grownBy_alloc w _ none)
 have T0 := hid (heap_alloc_new w (.cells #[.int .i64 0, .int .i64 0, .float .f64 0, .slice none 0 0] 72))
 have Z0 := hid (show (w.alloc (.cells #[.int .i64 0, .int .i64 0, .float .f64 0, .slice none 0 0] 72)).heap.size = w.heap.size + 1 by simp)
 generalize w.alloc (.cells #[.int .i64 0, .int .i64 0, .float .f64 0, .slice none 0 0] 72) = U at *
 generalize hq0 : w.heap.size = q0 at *
 have HQ := hid hq0
 have hgu : g < U.heap.size := by have := Z0.out; omega
 clear c hq0
 refine (l1Below c0 hn 6 (by omega) (by omega)).mono ?_
 rintro e w1 ⟨t, rfl, ht0, ht1, c1, g1⟩
 clear c0
 by_cases t0 : t = 0
 · subst t0
   go_wp2_with fail
   refine (l1Below c1 hn 3 (by omega) (by omega)).mono ?_
   rintro e w2 ⟨y, rfl, hy0, hy1, c2, g2⟩
   have OL := hid (show (w2.alloc (.cells #[.int .u8 (97 + y)] 5)).ownsRow U.heap.size 5 1 (.slice (some ⟨w2.heap.size, 0, none⟩) 1 1) [97 + y].length (bys [97 + y]) from World.ownsRow_lit (base := U.heap.size) (e := 5) (size := 1) w2 #[.int .u8 (97 + y)] 1 ((grown_trans g1 g2)).size (by unfold maxLen; omega) rfl)
   have FA := finI (M := 1000) G0.out HQ.out Z0.out T0.out hgl (grown_new (grown_trans g1 g2) (World.grownBy_alloc w2 (.cells #[.int .u8 (97 + y)] 5) none) (fun r hr => by cases hr)) (c2.alloc (.cells #[.int .u8 (97 + y)] 5)) OL.out (fun i => by rcases i with _ | i <;> simp <;> omega) (by simp) (by omega) (by omega) (K := 3) (N := 0) (f := 0)
   have TQ := hid FA.1
   have AN := hid FA.2
   clear FA
   go_wp2_with (first
    | (refine wpList_store_row rfl 72 _ _ rfl q0 #[.int .i64 3, .int .i64 0, .float .f64 0, .slice (some ⟨w2.heap.size, 0, none⟩) 1 1] rfl rfl 72 _ TQ.out ?s1x1 ?s2x1 ?s3x1 ?_))
   case s1x1 => simpa using sizeIt
   try case s2x1 => rfl
   case s3x1 => simp [Value.oneCell']
   refine bodyPost_ret (results_cell_row Tryz.results81 _ _ q0 72 #[.int .i64 3, .int .i64 0, .float .f64 0, .slice (some ⟨w2.heap.size, 0, none⟩) 1 1] (0, 0) _ rfl (setRow_heap _ _ _ _ _ _ TQ.out) Tryz.underlying72 rfl sizeIt) rfl ?_
   exact AN.out
 by_cases t1 : t = 1
 · subst t1
   go_wp2_with fail
   refine (l1Below c1 hn 5 (by omega) (by omega)).mono ?_
   rintro e w2 ⟨y, rfl, hy0, hy1, c2, g2⟩
   obtain ⟨z, w7, hrun, hz, st⟩ := quo_run 70 (floatOfInt .f64 (y - 2)) 4611686018427387904 w2
   go_wp2_with fail
   have c7 := c2.still st.out
   have g7 := grown_still (grown_trans g1 g2) st.out
   clear hrun
   refine (clean_any 2 0 z (ad := none) (n := 0) 0 (fun _ => rfl) (zs := []) (w := w7) ⟨rfl, .inl rfl, by simp⟩ hz (by omega) (by omega)).mono ?_
   rintro e w8 ⟨K', N', f', v', D', rfl, o8, bd8, hD8, hN8, hf8, b8⟩
   obtain ⟨a8, c8, rfl⟩ : ∃ a c, v' = .slice a D'.length c := by
    rcases o8.2 with ⟨h1, h2⟩ | ⟨g', cap', cur, h1, _⟩
    · exact ⟨none, 0, by rw [h1, h2]⟩
    · exact ⟨_, _, h1⟩
   have O8 := hid (owns_lower o8 (g7).size)
   clear o8
   have FA := finI (M := 1000) G0.out HQ.out Z0.out T0.out hgl (grown_new g7 (below_grown b8) (fun r hr => by cases hr)) (c7.below b8 (Nat.le_refl _)) O8.out bd8 (by omega) hN8 hf8 (K := K') (N := N') (f := f')
   have TQ := hid FA.1
   have AN := hid FA.2
   clear FA
   go_wp2_with (first
    | (refine wpList_store_row rfl 72 _ _ rfl q0 #[.int .i64 K', .int .i64 N', .float .f64 f', (.slice a8 D'.length c8)] rfl rfl 72 _ TQ.out ?s1x2 ?s2x2 ?s3x2 ?_))
   case s1x2 => simpa using sizeIt
   try case s2x2 => rfl
   case s3x2 => simp [Value.oneCell']
   refine bodyPost_ret (results_cell_row Tryz.results81 _ _ q0 72 #[.int .i64 K', .int .i64 N', .float .f64 f', (.slice a8 D'.length c8)] (0, 0) _ rfl (setRow_heap _ _ _ _ _ _ TQ.out) Tryz.underlying72 rfl sizeIt) rfl ?_
   exact AN.out
 by_cases t2 : t = 2
 · subst t2
   go_wp2_with fail
   refine (l1Once c1 hn 3 (by omega) (by omega)).mono ?_
   rintro e w2 ⟨q, rfl, c2, g2⟩
   have G2 := grown_trans g1 g2
   cases q
   · go_wp2_with fail
     refine (l1Below c2 hn 6 (by omega) (by omega)).mono ?_
     rintro e w9 ⟨y9, rfl, hy90, hy91, c9, g9⟩
     have FA := finI (M := 1000) G0.out HQ.out Z0.out T0.out hgl (grown_trans G2 g9) c9 (show w9.ownsRow U.heap.size 5 1 (.slice none 0 0) ([] : List Int).length (bys []) from World.ownsRow_nil _ _ _ _) (by simp) (by simp) (by omega) (by omega) (K := 1) (N := (y9 - 1)) (f := 0)
     have TQ := hid FA.1
     have AN := hid FA.2
     clear FA
     go_wp2_with (first
      | (refine wpList_store_row rfl 72 _ _ rfl q0 #[.int .i64 1, .int .i64 (y9 - 1), .float .f64 0, .slice none 0 0] rfl rfl 72 _ TQ.out ?s1x3 ?s2x3 ?s3x3 ?_))
     case s1x3 => simpa using sizeIt
     try case s2x3 => rfl
     case s3x3 => simp [Value.oneCell']
     refine bodyPost_ret (results_cell_row Tryz.results81 _ _ q0 72 #[.int .i64 1, .int .i64 (y9 - 1), .float .f64 0, .slice none 0 0] (0, 0) _ rfl (setRow_heap _ _ _ _ _ _ TQ.out) Tryz.underlying72 rfl sizeIt) rfl ?_
     exact AN.out
   · go_wp2_with fail
     refine (l2float c2 hn).mono ?_
     rintro e w3 ⟨z, rfl, hz, c3, g3⟩
     have G3 := grown_trans G2 g3
     go_wp2_with fail
     refine (clean_any 2 0 z (ad := none) (n := 0) 0 (fun _ => rfl) (zs := []) (w := w3) ⟨rfl, .inl rfl, by simp⟩ hz (by omega) (by omega)).mono ?_
     rintro e w8 ⟨K', N', f', v', D', rfl, o8, bd8, hD8, hN8, hf8, b8⟩
     obtain ⟨a8, c8, rfl⟩ : ∃ a c, v' = .slice a D'.length c := by
      rcases o8.2 with ⟨h1, h2⟩ | ⟨g', cap', cur, h1, _⟩
      · exact ⟨none, 0, by rw [h1, h2]⟩
      · exact ⟨_, _, h1⟩
     have O8 := hid (owns_lower o8 (G3).size)
     clear o8
     have FA := finI (M := 1000) G0.out HQ.out Z0.out T0.out hgl (grown_new G3 (below_grown b8) (fun r hr => by cases hr)) (c3.below b8 (Nat.le_refl _)) O8.out bd8 (by omega) hN8 hf8 (K := K') (N := N') (f := f')
     have TQ := hid FA.1
     have AN := hid FA.2
     clear FA
     go_wp2_with (first
      | (refine wpList_store_row rfl 72 _ _ rfl q0 #[.int .i64 K', .int .i64 N', .float .f64 f', (.slice a8 D'.length c8)] rfl rfl 72 _ TQ.out ?s1x4 ?s2x4 ?s3x4 ?_))
     case s1x4 => simpa using sizeIt
     try case s2x4 => rfl
     case s3x4 => simp [Value.oneCell']
     refine bodyPost_ret (results_cell_row Tryz.results81 _ _ q0 72 #[.int .i64 K', .int .i64 N', .float .f64 f', (.slice a8 D'.length c8)] (0, 0) _ rfl (setRow_heap _ _ _ _ _ _ TQ.out) Tryz.underlying72 rfl sizeIt) rfl ?_
     exact AN.out
 by_cases t3 : t = 3
 · subst t3
   go_wp2_with fail
   refine (l1Once c1 hn 4 (by omega) (by omega)).mono ?_
   rintro e w2 ⟨q, rfl, c2, g2⟩
   have G2 := grown_trans g1 g2
   cases q
   · go_wp2_with fail
     refine (l1Below c2 hn 6 (by omega) (by omega)).mono ?_
     rintro e w9 ⟨y9, rfl, hy90, hy91, c9, g9⟩
     have FA := finI (M := 1000) G0.out HQ.out Z0.out T0.out hgl (grown_trans G2 g9) c9 (show w9.ownsRow U.heap.size 5 1 (.slice none 0 0) ([] : List Int).length (bys []) from World.ownsRow_nil _ _ _ _) (by simp) (by simp) (by omega) (by omega) (K := 1) (N := (y9 - 1)) (f := 0)
     have TQ := hid FA.1
     have AN := hid FA.2
     clear FA
     go_wp2_with (first
      | (refine wpList_store_row rfl 72 _ _ rfl q0 #[.int .i64 1, .int .i64 (y9 - 1), .float .f64 0, .slice none 0 0] rfl rfl 72 _ TQ.out ?s1x5 ?s2x5 ?s3x5 ?_))
     case s1x5 => simpa using sizeIt
     try case s2x5 => rfl
     case s3x5 => simp [Value.oneCell']
     refine bodyPost_ret (results_cell_row Tryz.results81 _ _ q0 72 #[.int .i64 1, .int .i64 (y9 - 1), .float .f64 0, .slice none 0 0] (0, 0) _ rfl (setRow_heap _ _ _ _ _ _ TQ.out) Tryz.underlying72 rfl sizeIt) rfl ?_
     exact AN.out
   · go_wp2_with fail
     refine (l1some2 c2 hn 40 (by omega) (by omega)).mono ?_
     rintro e w9 ⟨sv, SL, rfl, o9, bd9, hl9, -, c9, g9⟩
     obtain ⟨a9, q9, rfl⟩ : ∃ a c, sv = .slice a SL.length c := by
      rcases o9.2 with ⟨h1, h2⟩ | ⟨g', cap', cur, h1, _⟩
      · exact ⟨none, 0, by rw [h1, h2]⟩
      · exact ⟨_, _, h1⟩
     have O9 := hid (owns_lower o9 (G2).size)
     clear o9
     have FA := finI (M := 1000) G0.out HQ.out Z0.out T0.out hgl (grown_trans G2 g9) c9 O9.out bd9 hl9 (by omega) (by omega) (K := 3) (N := 0) (f := 0)
     have TQ := hid FA.1
     have AN := hid FA.2
     clear FA
     go_wp2_with (first
      | (refine wpList_store_row rfl 72 _ _ rfl q0 #[.int .i64 3, .int .i64 0, .float .f64 0, (.slice a9 SL.length q9)] rfl rfl 72 _ TQ.out ?s1x6 ?s2x6 ?s3x6 ?_))
     case s1x6 => simpa using sizeIt
     try case s2x6 => rfl
     case s3x6 => simp [Value.oneCell']
     refine bodyPost_ret (results_cell_row Tryz.results81 _ _ q0 72 #[.int .i64 3, .int .i64 0, .float .f64 0, (.slice a9 SL.length q9)] (0, 0) _ rfl (setRow_heap _ _ _ _ _ _ TQ.out) Tryz.underlying72 rfl sizeIt) rfl ?_
     exact AN.out
 go_wp2_with fail
 refine (l1Below c1 hn 6 (by omega) (by omega)).mono ?_
 rintro e w9 ⟨y9, rfl, hy90, hy91, c9, g9⟩
 have FA := finI (M := 1000) G0.out HQ.out Z0.out T0.out hgl (grown_trans g1 g9) c9 (show w9.ownsRow U.heap.size 5 1 (.slice none 0 0) ([] : List Int).length (bys []) from World.ownsRow_nil _ _ _ _) (by simp) (by simp) (by omega) (by omega) (K := 1) (N := (y9 - 1)) (f := 0)
 have TQ := hid FA.1
 have AN := hid FA.2
 clear FA
 go_wp2_with (first
  | (refine wpList_store_row rfl 72 _ _ rfl q0 #[.int .i64 1, .int .i64 (y9 - 1), .float .f64 0, .slice none 0 0] rfl rfl 72 _ TQ.out ?s1x7 ?s2x7 ?s3x7 ?_))
 case s1x7 => simpa using sizeIt
 try case s2x7 => rfl
 case s3x7 => simp [Value.oneCell']
 refine bodyPost_ret (results_cell_row Tryz.results81 _ _ q0 72 #[.int .i64 1, .int .i64 (y9 - 1), .float .f64 0, .slice none 0 0] (0, 0) _ rfl (setRow_heap _ _ _ _ _ _ TQ.out) Tryz.underlying72 rfl sizeIt) rfl ?_
 exact AN.out
end Go.Proofs.YtjcjoabblafboaaGreat
/- Plain arithmetic: the sum of 32 bits, one bit at a time and by a table. No conditions. -/


namespace Go.Proofs.YtjcjoabblafboaaGreat
open Go.RowKit
theorem wrap_i64_in (n : Int) (h0 : 0 ≤ n) (h1 : n < 9223372036854775808) : IntKind.i64.wrap n = n := by
 rw [IntKind.wrap_i64]; omega
end Go.Proofs.YtjcjoabblafboaaGreat
/- Plain arithmetic: the number that bytes are, low first, and what GetNum answers. No conditions. -/

namespace Go.Proofs.YtjcjoabblafboaaGreat
open Go.RowKit
set_option maxRecDepth 100000
theorem pow256_le (c d : Nat) (h : c ≤ d) : (256 : Int) ^ c ≤ 256 ^ d := by
 induction h with
 | refl => exact Int.le_refl _
 | step h ih => rename_i m; have e : (256 : Int) ^ (m + 1) = 256 ^ m * 256 := by rw [Int.pow_succ]
                have : (0 : Int) < 256 ^ m := Int.pow_pos (by decide)
                omega
end Go.Proofs.YtjcjoabblafboaaGreat
/- The draw of a number. For codes of at most 2^21 bytes. -/



namespace Go.Proofs.YtjcjoabblafboaaGreat
open Go.RowKit
theorem wrap_bd (n : Int) : -9223372036854775808 ≤ IntKind.i64.wrap n ∧ IntKind.i64.wrap n ≤ 9223372036854775807 := by
 rw [IntKind.wrap_i64]; omega
set_option maxRecDepth 100000 in
set_option maxHeartbeats 3200000 in
theorem l1number {w : World} {g : Nat} {ad : Option Addr} {n cap : Nat} {zs : List Int} (c : Cur w g ad n cap zs) (hn : n ≤ 2097152) :
 Calls Tryz.prog 175 #[.pointer (some ⟨g, 0, none⟩)] w fun e w' => ∃ x : Int, e = .returned (.int .i64 x) ∧ -9223372036854775808 ≤ x ∧ x ≤ 9223372036854775807 ∧ Cur w' g ad n cap zs ∧ w.grownBy w' (some g) := by
 go_enter Tryz.func175, Tryz.ntmps175
 go_wp2_with fail
 refine (l1Below c hn 1000 (by omega) (by omega)).mono ?_
 rintro e w1 ⟨x, rfl, hx0, hx1, c1, g1⟩
 go_wp2_with fail
 refine (l1Below c1 hn 6 (by omega) (by omega)).mono ?_
 rintro e w2 ⟨j, rfl, hj0, hj1, c2, g2⟩
 have G2 := grown_trans g1 g2
 clear c1 g1 g2 c
 go_wp2_with fail
 go_loopw [3, 4] (fun s i wr => ∃ (k : Nat) (y : Int), k ≤ 5 ∧ i = .int .i64 k ∧ s = .int .i64 y ∧ 0 ≤ y ∧ y < 1000 * 256 ^ (5 - k) ∧ Cur wr g ad n cap zs ∧ w.grownBy wr (some g)) (fun _ i _ => (intOf i).toNat)
 case atStart =>
  obtain ⟨k, rfl⟩ := Int.eq_ofNat_of_zero_le hj0
  have := pow256_le 0 (5 - k) (Nat.zero_le _)
  exact ⟨k, x, by omega, rfl, rfl, hx0, by omega, c2, G2⟩
 case round =>
  obtain ⟨k, y, hk, rfl, rfl, hy0, hy1, c3, g3⟩ := hrel
  by_cases hk0 : k = 0
  · subst hk0
    have hy2 : y < 1099511627776000 := by have : (256 : Int) ^ (5 - 0) = 1099511627776 := by decide
                                          omega
    clear hy1 c2 G2
    go_wp2_with fail
    refine (l1Below c3 hn 12 (by omega) (by omega)).mono ?_
    rintro e w4 ⟨t, rfl, ht0, ht1, c4, g4⟩
    have G4 := grown_trans g3 g4
    clear c3 g3 g4
    by_cases t0 : t = 0
    · subst t0
      go_wp2_with fail
      go_ret
      exact ⟨_, rfl, by omega, by omega, c4, G4⟩
    by_cases t1 : t = 1
    · subst t1
      go_wp2_with fail
      have c5 := hid (c4.still (Still.drew w4))
      have G5 := grown_still G4 (Still.drew w4)
      clear c4 G4
      go_region_held3 (fun _ => True) (trivial) (first
       | (go_at_call_of 79 (Value.int IntKind.i64 7); refine (l1Below c5.out hn 7 (by omega) (by omega)).mono ?_; rintro e w6 ⟨p, rfl, hp0, hp1, c6, g6⟩; have hs1 := wrap_i64_in (1 + p) (by omega) (by omega); have hs2 := wrap_i64_in (8 * (1 + p)) (by omega) (by omega); have hs3 := shift_shl .i64 .i64 1 (8 * (1 + p)) (by omega) (by show 8 * (1 + p) ≤ 64; omega))
       | (go_at_call_of 79 (Value.int IntKind.i64 2); refine (l1Below c6 hn 2 (by omega) (by omega)).mono ?_; rintro e w7 ⟨q, rfl, hq0, hq1, c7, g7⟩))
      go_wp2_with fail
      go_ret
      have hb := wrap_bd (IntKind.i64.wrap (2 ^ (8 * (1 + p)).toNat) - q)
      exact ⟨_, rfl, hb.1, hb.2, c7, grown_trans (grown_trans G5 g6) g7⟩
    by_cases t2 : t = 2
    · subst t2
      go_wp2_with fail
      go_ret
      exact ⟨_, rfl, by omega, by omega, c4, G4⟩
    by_cases t3 : t = 3
    · subst t3
      go_wp2_with fail
      go_ret
      exact ⟨_, rfl, by omega, by omega, c4, G4⟩
    go_wp2_with fail
    go_ret
    exact ⟨_, rfl, by omega, by omega, c4, G4⟩
  · obtain ⟨m, rfl⟩ : ∃ m, k = m + 1 := ⟨k - 1, by omega⟩
    have p4 := pow256_le (5 - (m + 1)) 4 (by omega)
    have e4 : (256 : Int) ^ 4 = 4294967296 := by decide
    have ps : Hid ((256 : Int) ^ (5 - m) = 256 ^ (5 - (m + 1)) * 256) := by
     unfold Hid; rw [show 5 - m = 5 - (m + 1) + 1 by omega, Int.pow_succ]
    generalize (256 : Int) ^ (5 - (m + 1)) = P at *
    have hy2 : y < 4294967296000 := by omega
    have HY := hid hy1
    clear hy1 c2 G2 p4 e4
    go_wp2_with fail
    refine (l1Byte c3 hn).mono ?_
    rintro e w4 ⟨u, rfl, hu0, hu1, c4, g4⟩
    have G4 := grown_trans g3 g4
    clear c3 g3 g4
    go_wp2_with fail
    go_roundw
    case rel => exact ⟨m, _, by omega, by go_num, rfl, by omega, by rw [ps.out]; have := HY.out; omega, c4, G4⟩
    case measure => simp [intOf]
end Go.Proofs.YtjcjoabblafboaaGreat
