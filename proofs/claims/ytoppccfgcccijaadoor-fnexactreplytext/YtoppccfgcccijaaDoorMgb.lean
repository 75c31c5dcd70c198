/- Texts of this proof in one: It2 It3 It4 It5 It6 It7 It8 Xf18 Yb18 St Ya18 Yc18 Sha18 It9 Ph Im1 Yd18. -/
import Derived.Test.YtoppccfgcccijaaDoorMga
import Derived.Laws.Tables
import Derived.Laws.AppendOwnNone
import Derived.Laws.BytesArg
import Derived.Laws.Cover1
import Derived.Lib.ItoaNum
import Derived.Lib.AtoiAll
import Derived.Lib.ConvBytes
import Derived.Test.YtoppccfgcccijaaDoorChecked
import Derived.Shelf.Strconv.Itoa3
import Derived.Deep.RegionHeld3
import Derived.WalkLawsBesides
import Derived.Maps.AppendAt
/- The contracts of the laws' szItem, toItem, eqItem, and of the specification's KeyOk. Conditions: texts of at most 2^21 bytes where memory is made. -/

namespace Go.Proofs.YtoppccfgcccijaaDoor
open Go.RowKit

/-- The cells of an item. -/
def itemC (K N : Int) (f : Nat) (ad : Option Addr) (n cap : Nat) : Array Value := #[.int .i64 K, .int .i64 N, .float .f64 f, .slice ad n cap]
/-- An item in a block of its own. -/
structure Box (w : World) (g : Nat) (K N : Int) (f : Nat) (ad : Option Addr) (n cap : Nat) : Prop where
  c0 : w.cell? ⟨g, 0, none⟩ = some (.int .i64 K)
  c1 : w.cell? ⟨g, 1, none⟩ = some (.int .i64 N)
  c2 : w.cell? ⟨g, 2, none⟩ = some (.float .f64 f)
  c3 : w.cell? ⟨g, 3, none⟩ = some (.slice ad n cap)
theorem Box.new (w : World) (K N : Int) (f : Nat) (ad : Option Addr) (n cap : Nat) (t : TypeId) : Box (w.alloc (.cells #[.int .i64 K, .int .i64 N, .float .f64 f, .slice ad n cap] t)) w.heap.size K N f ad n cap := by
  have h := heap_alloc_new w (.cells #[.int .i64 K, .int .i64 N, .float .f64 f, .slice ad n cap] t)
  refine ⟨?_, ?_, ?_, ?_⟩ <;> (rw [cell_of_row _ _ _ _ _ _ h]; rfl)
theorem Box.below {w w' : World} {g : Nat} {K N : Int} {f : Nat} {ad : Option Addr} {n cap : Nat} (b : Box w g K N f ad n cap) {B : Nat} (h : Below B w w') (hB : g < B) : Box w' g K N f ad n cap :=
  ⟨(h.cell (p := ⟨g, 0, none⟩) hB).trans b.c0, (h.cell (p := ⟨g, 1, none⟩) hB).trans b.c1, (h.cell (p := ⟨g, 2, none⟩) hB).trans b.c2, (h.cell (p := ⟨g, 3, none⟩) hB).trans b.c3⟩

theorem szByteS (ad : Option Addr) (n cap : Nat) (left : Int) (hn : n ≤ 9223372036854775807) (h0 : 0 ≤ left) (h1 : left ≤ 1048576) (w : World) :
    Calls Tryd.prog 25 #[.slice ad n cap, .int .i64 left] w fun e w' => e = .returned (.int .i64 (if left < n then -1 else left - n)) ∧ w' = w := by
  have a1 : (0 : Int) ≤ (n : Int) := by omega
  have a2 : (n : Int) ≤ 9223372036854775807 := by omega
  by_cases h : left < n
  · rw [if_pos h]
    have q : left - (n : Int) < 0 := by omega
    go_enter Tryd.func25, Tryd.ntmps25
    go_wp2
    go_ret
    exact ⟨rfl, rfl⟩
  · rw [if_neg h]
    have q : ¬ left - (n : Int) < 0 := by omega
    go_enter Tryd.func25, Tryd.ntmps25
    go_wp2
    go_ret
    exact ⟨rfl, rfl⟩

theorem szItem (K N : Int) (f : Nat) (ad : Option Addr) (n cap : Nat) (left : Int) (hn : n ≤ 9223372036854775807) (h0 : 0 ≤ left) (h1 : left ≤ 1048576) (w : World) :
    Calls Tryd.prog 6 #[.agg #[.int .i64 K, .int .i64 N, .float .f64 f, .slice ad n cap], .int .i64 left] w fun e w' => e = .returned (.int .i64 (if left < n then -1 else left - n)) ∧ Below w.heap.size w w' := by
  have HA := hid (show Below w.heap.size w (w.alloc (.cells #[.int .i64 K, .int .i64 N, .float .f64 f, .slice ad n cap] 25)) from (Below.refl _ _).alloc (Nat.le_refl _) _)
  by_cases h : left < n
  · rw [if_pos h]
    go_enter Tryd.func6, Tryd.ntmps6
    go_wp2_with fail
    refine (szByteS ad n cap left hn h0 h1 _).mono ?_
    rintro e w1 ⟨rfl, rfl⟩
    rw [if_pos h]
    go_wp2_with fail
    go_ret
    exact ⟨rfl, HA.out⟩
  · rw [if_neg h]
    have q : ¬ left - (n : Int) < 0 := by omega
    have hz := szByteS ad n cap left hn h0 h1
    rw [if_neg h] at hz
    have HZ := hid hz
    clear hz
    go_enter Tryd.func6, Tryd.ntmps6
    go_wp2_with fail
    refine (HZ.out _).mono ?_
    rintro e w1 ⟨rfl, rfl⟩
    go_wp2_with fail
    go_ret
    exact ⟨rfl, HA.out⟩

end Go.Proofs.YtoppccfgcccijaaDoor
/- The contract of the laws' toItem: the same item with a text of its own. Conditions: texts of at most 2^21 bytes. -/



namespace Go.Proofs.YtoppccfgcccijaaDoor
open Go.RowKit

theorem size28 : (Tryd.prog.info? 28).map (·.size) = some 4 := by kernel_rfl







set_option maxRecDepth 100000 in
set_option maxHeartbeats 1600000 in
theorem toItem (K N : Int) (f : Nat) {ad : Option Addr} {n : Nat} (cap : Nat) {zs : List Int} {w : World} (h : Reads w ad n zs) (hn : n ≤ 2097152) :
    Calls Tryd.prog 8 #[.agg #[.int .i64 K, .int .i64 N, .float .f64 f, .slice ad n cap]] w fun e w' => ∃ g, e = .returned (.agg #[.int .i64 K, .int .i64 N, .float .f64 f, .slice (some ⟨g, 0, none⟩) n n]) ∧ w'.ownsRow w.heap.size 5 1 (.slice (some ⟨g, 0, none⟩) n n) n (bys zs) ∧ Below w.heap.size w w' := by
  have hst := fun w a m => run_store Tryd.prog w a (.float .f64 f) m rfl
  go_enter Tryd.func8, Tryd.ntmps8
  go_wp2_with fail
  obtain ⟨z, R1, R2, bW⟩ := three w (.cells #[.int .i64 K, .int .i64 N, .float .f64 f, .slice ad n cap] 25) (.cells #[.int .i64 0, .int .i64 0, .float .f64 0, .slice none 0 0] 28) (.cells #[.int .i64 K, .int .i64 N, .float .f64 f, .slice none 0 0] 28)
  have zW := hid z
  clear z
  generalize ((w.alloc (.cells #[.int .i64 K, .int .i64 N, .float .f64 f, .slice ad n cap] 25)).alloc (.cells #[.int .i64 0, .int .i64 0, .float .f64 0, .slice none 0 0] 28)).alloc (.cells #[.int .i64 K, .int .i64 N, .float .f64 f, .slice none 0 0] 28) = W at *
  refine (toByteS_any cap (h.below bW (Nat.le_refl _)) hn).mono ?_
  rintro e W1 ⟨rfl, o1, b1⟩
  have hW := zW.out
  have S1 : W1.heap[w.heap.size + 1]? = _ := (b1.block _ (by omega)).trans R1
  have S2 : W1.heap[w.heap.size + 1 + 1]? = _ := (b1.block _ (by omega)).trans R2
  have B1 := bW.trans (b1.mono bW.size)
  have O1 := hid o1
  have HW := hid hW
  clear o1 hW zW R1 R2 bW b1
  have c3 : W1.cell? ⟨w.heap.size + 1 + 1, 3, none⟩ = some (.slice none 0 0) := by rw [cell_of_row _ _ _ _ _ _ S2]; rfl
  have fz : W1.frozen? ⟨w.heap.size + 1 + 1, 3, none⟩ = false := frozen_of_row _ _ _ _ _ S2
  have T2 := hid (heap_setCell_same W1 (w.heap.size + 1 + 1) 3 _ 28 (.slice (some ⟨W.heap.size, 0, none⟩) n n) S2)
  have T1 := hid ((heap_setCell_other W1 ⟨w.heap.size + 1 + 1, 3, none⟩ (w.heap.size + 1) (.slice (some ⟨W.heap.size, 0, none⟩) n n) (by simp)).trans S1)
  have BC := hid (B1.setCell (p := ⟨w.heap.size + 1 + 1, 3, none⟩) (by simp; omega) (.slice (some ⟨W.heap.size, 0, none⟩) n n))
  clear S1 S2
  go_wp2_with (first
    | (refine wpList_load_row rfl 28 (.tmp 3) rfl (w.heap.size + 1 + 1) rfl 28 _ (0, 0) _ T2.out Tryd.underlying28 rfl size28 ?_)
    | (refine wpList_store_row rfl 28 (.tmp 2) (.tmp 17) rfl (w.heap.size + 1) #[.int .i64 K, .int .i64 N, .float .f64 f, .slice (some ⟨W.heap.size, 0, none⟩) n n] rfl rfl 28 _ T1.out ?s1 ?s2 ?s3 ?_))
  case s1 => exact size28
  case s2 => rfl
  case s3 => simp [Value.oneCell']
  have hW := HW.out
  refine bodyPost_ret (results_cell_row Tryd.results8 _ _ (w.heap.size + 1) 28 #[.int .i64 K, .int .i64 N, .float .f64 f, .slice (some ⟨W.heap.size, 0, none⟩) n n] (0, 0) _ rfl (setRow_heap _ _ _ _ _ _ T1.out) Tryd.underlying28 rfl size28) rfl ⟨W.heap.size, rfl, owns_base (owns_at O1.out fun k hk => ?_) (by omega), below_setRow BC.out (by omega) _⟩
  rw [setRow_other _ _ _ _ (by omega), heap_setCell_other _ _ _ _ (by simp; omega)]
end Go.Proofs.YtoppccfgcccijaaDoor
/- The contracts of the laws' eqItem, markItem and heldItem. Conditions: texts of at most 2^21 bytes. -/

namespace Go.Proofs.YtoppccfgcccijaaDoor
open Go.RowKit



set_option maxRecDepth 100000 in
set_option maxHeartbeats 1600000 in
/-- Two items that are the same are told so. -/
theorem eqItem (K N : Int) (f f' : Nat) {ad ad' : Option Addr} {n : Nat} (cap cap' : Nat) {zs : List Int} {w : World} (hf : f < 18446744073709551616) (hf' : f' < 18446744073709551616) (hs : Same f f') (h : Reads w ad n zs) (h' : Reads w ad' n zs) (hn : n ≤ 2097152) :
    Calls Tryd.prog 11 #[.agg #[.int .i64 K, .int .i64 N, .float .f64 f, .slice ad n cap], .agg #[.int .i64 K, .int .i64 N, .float .f64 f', .slice ad' n cap']] w fun e w' => e = .returned (.bool true) ∧ Below w.heap.size w w' := by
  have hB := two w (.cells #[.int .i64 K, .int .i64 N, .float .f64 f, .slice ad n cap] 28) (.cells #[.int .i64 K, .int .i64 N, .float .f64 f', .slice ad' n cap'] 28)
  have H1 := hid (h.below hB (Nat.le_refl _))
  have H2 := hid (h'.below hB (Nat.le_refl _))
  have HB := hid hB
  clear hB h h'
  go_enter Tryd.func11, Tryd.ntmps11
  go_wp2_with fail
  refine (sameFloat_walk f f' hf hf' hs _).mono ?_
  rintro e w1 ⟨rfl, hw⟩
  rw [hw]
  clear hw
  go_wp2_with fail
  refine (eqByteS_any cap cap' H1.out H2.out hn).mono ?_
  rintro e w2 ⟨rfl, st⟩
  go_wp2_with fail
  go_ret
  exact ⟨rfl, HB.out.trans (st.below _)⟩
end Go.Proofs.YtoppccfgcccijaaDoor
/- Texts compared: the contract of the specification's l3texts. Conditions: texts of at most 2^21 bytes. -/

namespace Go.Proofs.YtoppccfgcccijaaDoor
open Go.RowKit

/-- How two texts stand. -/
def txt : List Int → List Int → Int
  | [], [] => 0
  | [], _ :: _ => -1
  | _ :: _, [] => 1
  | x :: xs, y :: ys => if x < y then -1 else if y < x then 1 else txt xs ys

theorem drop_cons (zs : List Int) (k : Nat) (h : k < zs.length) : zs.drop k = zs.getD k 0 :: zs.drop (k + 1) := by
  rw [List.drop_eq_getElem_cons h]
  simp [List.getD, h]
theorem txt_step (zs ys : List Int) (k : Nat) (h : k < zs.length) (h' : k < ys.length) :
    txt (zs.drop k) (ys.drop k) = if zs.getD k 0 < ys.getD k 0 then -1 else if ys.getD k 0 < zs.getD k 0 then 1 else txt (zs.drop (k + 1)) (ys.drop (k + 1)) := by
  rw [drop_cons zs k h, drop_cons ys k h']
  rfl
theorem txt_end (zs ys : List Int) (k : Nat) (hk : k ≤ zs.length) (hk' : k ≤ ys.length) (h : k = zs.length ∨ k = ys.length) :
    txt (zs.drop k) (ys.drop k) = if zs.length < ys.length then -1 else if ys.length < zs.length then 1 else 0 := by
  by_cases h1 : k = zs.length
  · subst h1
    rw [List.drop_length]
    by_cases h2 : zs.length < ys.length
    · rw [if_pos h2, drop_cons ys _ h2]; rfl
    · rw [if_neg h2, if_neg (by omega), List.drop_eq_nil_of_le (by omega)]; rfl
  · have h2 : k = ys.length := by omega
    subst h2
    rw [List.drop_length, if_neg (by omega), if_pos (by omega), drop_cons zs _ (by omega)]; rfl

/-- How two items stand. -/
def cmpI (K N : Int) (f n : Nat) (zs : List Int) (K' N' : Int) (f' n' : Nat) (zs' : List Int) : Int :=
  if okI K N f n = false ∨ okI K' N' f' n' = false then -2
  else if K ≠ K' then (if K < K' then -1 else 1)
  else if N ≠ N' then (if N < N' then -1 else 1)
  else if cmp3 (frank f) (frank f') ≠ 0 then cmp3 (frank f) (frank f')
  else txt zs zs'

end Go.Proofs.YtoppccfgcccijaaDoor
/- The contracts of the laws' markItem and heldItem. Conditions: texts of at most 2^21 bytes. -/

namespace Go.Proofs.YtoppccfgcccijaaDoor
open Go.RowKit

theorem markItem (K N : Int) (f : Nat) {base n cap : Nat} {ad : Option Addr} (k : Int) {xs : List Value} {w : World} (hn : n ≤ 2097152) (hk0 : 0 ≤ k) (hk1 : k ≤ 1000000000) (hown : w.ownsRow base 5 1 (.slice ad n cap) n xs) :
    Calls Tryd.prog 12 #[.agg #[.int .i64 K, .int .i64 N, .float .f64 f, .slice ad n cap], .int .i64 k] w fun e w' =>
      e = .returned (.int .i64 (k + n)) ∧ w'.ownsRow base 5 1 (.slice ad n cap) n (bys (marks k n)) ∧ w.grownBy w' (Value.slice ad n cap).ownBlock := by
  have o1 := hown.alloc (.cells #[.int .i64 K, .int .i64 N, .float .f64 f, .slice ad n cap] 28)
  have g1 := World.grownBy_alloc w (.cells #[.int .i64 K, .int .i64 N, .float .f64 f, .slice ad n cap] 28) (Value.slice ad n cap).ownBlock
  have O1 := hid o1
  clear o1
  go_enter Tryd.func12, Tryd.ntmps12
  go_wp2_with fail
  refine (markByteS_any k hn hk0 hk1 O1.out).mono ?_
  rintro e w1 ⟨rfl, o2, g2⟩
  go_wp2_with fail
  go_ret
  exact ⟨rfl, o2, grown_trans g1 g2⟩

theorem heldItem (K N : Int) (f : Nat) {ad : Option Addr} {n : Nat} (cap : Nat) (k : Int) {w : World} (h : Reads w ad n (marks k n)) (hn : n ≤ 2097152) (hk0 : 0 ≤ k) (hk1 : k ≤ 1000000000) :
    Calls Tryd.prog 18 #[.agg #[.int .i64 K, .int .i64 N, .float .f64 f, .slice ad n cap], .int .i64 k] w fun e w' => e = .returned (.int .i64 (k + n)) ∧ Below w.heap.size w w' := by
  have hA : Below w.heap.size w (w.alloc (.cells #[.int .i64 K, .int .i64 N, .float .f64 f, .slice ad n cap] 28)) := (Below.refl _ _).alloc (Nat.le_refl _) _
  have H1 := hid (h.below hA (Nat.le_refl _))
  have HA := hid hA
  have q : ¬ (k + (n : Int)) < 0 := by omega
  clear h hA
  go_enter Tryd.func18, Tryd.ntmps18
  go_wp2_with fail
  refine (heldByteS_any cap k H1.out hn hk0 hk1).mono ?_
  rintro e w1 ⟨rfl, rfl⟩
  go_wp2_with fail
  go_ret
  exact ⟨rfl, HA.out⟩
end Go.Proofs.YtoppccfgcccijaaDoor
/- Eight bytes, high first: the contract of the specification's l3high. No conditions. -/

namespace Go.Proofs.YtoppccfgcccijaaDoor
open Go.RowKit

/-- The byte at place j of eight, high first. -/
def hb (x j : Nat) : Int := ((x / 2 ^ (8 * (7 - j)) % 256 : Nat) : Int)
def hi8 (x k : Nat) : List Int := (List.range k).map (hb x)
theorem hi8_succ (x k : Nat) : hi8 x (k + 1) = hi8 x k ++ [hb x k] := by simp [hi8, List.range_succ]
theorem hi8_length (x k : Nat) : (hi8 x k).length = k := by simp [hi8]
theorem hb_bd (x j : Nat) : 0 ≤ hb x j ∧ hb x j ≤ 255 := by unfold hb; omega

theorem shr_eq (x i : Nat) : (x : Int) / 2 ^ (8 * (i : Int)).toNat = ((x / 2 ^ (8 * i) : Nat) : Int) := by
  rw [show (8 * (i : Int)).toNat = 8 * i by omega]
  simp
theorem and_byte (y : Nat) (h : y < 18446744073709551616) : bits .and .u64 (y : Int) 255 = ((y % 256 : Nat) : Int) := by
  have := u64_and_nat y 255 h (by omega)
  rw [nat_mask8] at this
  exact this

set_option maxRecDepth 100000 in
set_option maxHeartbeats 3200000 in
theorem spec_l3high (x : Nat) (hx : x < 18446744073709551616) (w : World) :
    Calls Tryd.prog 29 #[.int .u64 x] w fun e w' => ∃ v, e = .returned v ∧ w'.ownsRow w.heap.size 5 1 v 8 (bys (hi8 x 8)) ∧ Below w.heap.size w w' := by
  obtain ⟨i0, hi, hz0, hz1, hz2⟩ := info_parts Tryd.info5
  go_enter Tryd.func29, Tryd.ntmps29
  go_wp2_with fail
  go_loopw [3, 4] (fun v i wr => ∃ k : Nat, k ≤ 8 ∧ i = .int .i64 (7 - (k : Int)) ∧ wr.ownsRow w.heap.size 5 1 v k (bys (hi8 x k)) ∧ Below w.heap.size w wr) (fun _ i _ => (intOf i + 1).toNat)
  case atStart => exact ⟨0, by omega, rfl, World.ownsRow_nil _ _ _ _, Below.refl _ _⟩
  case round =>
    obtain ⟨k, hk, rfl, hown, hb1⟩ := hrel
    by_cases hlt : k < 8
    · obtain ⟨i, hi7⟩ : ∃ i : Nat, 7 - (k : Int) = (i : Int) := ⟨7 - k, by omega⟩
      have hi0 : (0 : Int) ≤ (i : Int) := by omega
      have hi1 : (i : Int) ≤ 7 := by omega
      have hs := shr_eq x i
      have hlq : x / 2 ^ (8 * i) < 18446744073709551616 := Nat.lt_of_le_of_lt (Nat.div_le_self _ _) hx
      have ha := and_byte (x / 2 ^ (8 * i)) hlq
      have hbx : hb x k = ((x / 2 ^ (8 * i) % 256 : Nat) : Int) := by rw [hb, show 7 - k = i by omega]
      have hy := hb_bd x k
      rw [← hbx] at ha
      have z1 := hb1.size
      have HX := hid hbx
      have EI := hid hi7
      rw [hi7]
      generalize x / 2 ^ (8 * i) = q at *
      obtain ⟨y, HY⟩ : ∃ y, Hid (hb x k = y) := ⟨_, rfl⟩
      have hyy := HY.out
      rw [hyy] at ha hy
      clear hyy
      clear hbx hlq hi7
      go_wp2_with (at_builtin; refine wpList_append_own _ rfl _ _ 23 rfl w.heap.size 5 i0 (.int .u8 0) 1 1 Tryd.underlying23 hi hz0 hz1 hz2 rfl (by decide) _ _ _ rfl (hown.alloc _) ⟨wr.heap.size, 0, none⟩ 1 1 [.int .u8 y] rfl rfl (cell_one_new _ _ _) ?c2 ?c3 ?c4 ?c5 ?_)
      case c2 => intro u hu; simp at hu; subst hu; rfl
      case c3 => unfold maxLen; omega
      case c4 => omega
      case c5 => simp; omega
      intro v' w9 o3 g3 _
      have B9 : Below w.heap.size w w9 := (hb1.alloc z1 _).grown g3 (by simp; omega) (fun r hr => (hown.lt r hr).1)
      have O3 := hid o3
      clear g3 o3 hown hb1
      go_wp2_with fail
      go_roundw
      case rel => exact ⟨k + 1, by omega, by have := EI.out; go_num, by rw [hi8_succ, bys_append, HY.out]; exact O3.out, B9⟩
      case measure => have := EI.out; simp [intOf]
    · have hk8 : k = 8 := by omega
      subst hk8
      go_wp2_with fail
      go_ret
      exact ⟨_, rfl, hown, hb1⟩
end Go.Proofs.YtoppccfgcccijaaDoor
/- An item as bytes: the contracts of the specification's l3bytes. Conditions: texts of at most 2^21 bytes. -/


namespace Go.Proofs.YtoppccfgcccijaaDoor
open Go.RowKit

theorem xor_top (N : Int) (h0 : -9223372036854775808 ≤ N) (h1 : N ≤ 9223372036854775807) : bits .xor .u64 (IntKind.u64.wrap N) 9223372036854775808 = (((N + 9223372036854775808).toNat : Nat) : Int) := by
  have e : IntKind.u64.wrap N = N % 18446744073709551616 := by simp [IntKind.wrap, IntKind.bits, IntKind.signed]
  rw [e]
  by_cases hN : 0 ≤ N
  · obtain ⟨m, rfl⟩ := Int.eq_ofNat_of_zero_le hN
    rw [show (m : Int) % 18446744073709551616 = (m : Int) by omega]
    have h := u64_xor_nat m 9223372036854775808 (by omega) (by omega)
    have hx : m ^^^ 9223372036854775808 = 9223372036854775808 + m := neg_bits' m (by omega)
    rw [hx] at h
    rw [show ((m : Int) + 9223372036854775808).toNat = 9223372036854775808 + m by omega]
    exact h
  · obtain ⟨m, hm⟩ := Int.eq_ofNat_of_zero_le (show 0 ≤ N + 9223372036854775808 by omega)
    rw [show N % 18446744073709551616 = ((9223372036854775808 + m : Nat) : Int) by omega, hm]
    have h := u64_xor_nat (9223372036854775808 + m) 9223372036854775808 (by omega) (by omega)
    have hx : (9223372036854775808 + m) ^^^ 9223372036854775808 = m := neg_bits m (by omega)
    rw [hx] at h
    exact h

/-- An item's bytes, with these bits of its float. -/
def bytesI (K N : Int) (B : Nat) (zs : List Int) : List Int := [K] ++ (if K = 1 then hi8 (N + 9223372036854775808).toNat 8 else if K = 2 then hi8 B 8 else zs)

theorem hi8_bd (x k : Nat) : ∀ i, 0 ≤ (hi8 x k).getD i 0 ∧ (hi8 x k).getD i 0 ≤ 255 := by
  intro i
  by_cases h : i < k
  · simp only [hi8, List.getD, List.getElem?_map, List.getElem?_range h, Option.map_some, Option.getD_some]
    exact hb_bd x i
  · simp [hi8, List.getD, h]

end Go.Proofs.YtoppccfgcccijaaDoor
/- The specification's text of an item. Conditions: texts of at most 2^21 bytes. -/



namespace Go.Proofs.YtoppccfgcccijaaDoor
open Go.RowKit
set_option maxRecDepth 100000

def txtI (K N : Int) (f : Nat) (zs : List Int) : List Int := if okI K N f zs.length = true then (if K = 1 then 105 :: decI N else if K = 2 then 102 :: hexB (hi8 (fbits f) 8) else if K = 3 then 116 :: hexB zs else [45]) else []
/-- Bytes that are new, or none. -/
def TxB (B : Nat) (w : World) (v : Value) (L : List Int) : Prop := (L = [] ∧ v = .slice none 0 0) ∨ NewB B w v L
theorem hexB_byte {zs : List Int} (h : ∀ i, 0 ≤ zs.getD i 0 ∧ zs.getD i 0 ≤ 255) (i : Nat) : 0 ≤ (hexB zs).getD i 0 ∧ (hexB zs).getD i 0 ≤ 255 := by
  by_cases hi : i < (hexB zs).length
  · have := hexB_bd zs (fun z hz => by
      obtain ⟨j, hj, rfl⟩ := List.mem_iff_getElem.1 hz
      have := h j
      rwa [List.getD_eq_getElem?_getD, List.getElem?_eq_getElem hj] at this) ((hexB zs).getD i 0) (by rw [List.getD_eq_getElem?_getD, List.getElem?_eq_getElem hi]; exact List.getElem_mem hi)
    omega
  · rw [show (hexB zs).getD i 0 = 0 by simp [List.getD, List.getElem?_eq_none (Nat.le_of_not_lt hi)]]; omega
set_option maxHeartbeats 6400000 in
theorem spec_ItemText (K N : Int) (f : Nat) {ad : Option Addr} {n : Nat} (cap : Nat) {zs : List Int} {w : World} (h : Reads w ad n zs) (hn : n ≤ 2097152) (hN : -9223372036854775808 ≤ N ∧ N ≤ 9223372036854775807) (hf : f < 18446744073709551616) :
    Calls Tryd.prog 7 #[.agg #[.int .i64 K, .int .i64 N, .float .f64 f, .slice ad n cap]] w fun e w' => ∃ v, e = .returned v ∧ TxB w.heap.size w' v (txtI K N f zs) ∧ Below w.heap.size w w' := by
  obtain ⟨i0, hi, hz0, hz1, hz2⟩ := info_parts Tryd.info5
  have HR := hid h
  have HL := hid h.len
  have HB0 := hid (Below.alloc1 w (.cells #[.int .i64 K, .int .i64 N, .float .f64 f, .slice ad n cap] 28))
  have HN0 := hid (heap_alloc_new w (.cells #[.int .i64 K, .int .i64 N, .float .f64 f, .slice ad n cap] 28))
  have HZ0 := hid (alloc_size w (.cells #[.int .i64 K, .int .i64 N, .float .f64 f, .slice ad n cap] 28))
  have HNb := hid hN
  have hst := fun w a m => run_store Tryd.prog w a (.float .f64 f) m rfl
  clear h
  go_enter Tryd.func7, Tryd.ntmps7
  have e0 : (w.alloc (.cells #[.int .i64 K, .int .i64 N, .float .f64 f, .slice ad n cap] 28)).cell? ⟨w.heap.size, 0, none⟩ = some (.int .i64 K) := by rw [cell_of_row _ _ _ _ _ _ HN0.out]; rfl
  have e1 : (w.alloc (.cells #[.int .i64 K, .int .i64 N, .float .f64 f, .slice ad n cap] 28)).cell? ⟨w.heap.size, 1, none⟩ = some (.int .i64 N) := by rw [cell_of_row _ _ _ _ _ _ HN0.out]; rfl
  have e2 : (w.alloc (.cells #[.int .i64 K, .int .i64 N, .float .f64 f, .slice ad n cap] 28)).cell? ⟨w.heap.size, 2, none⟩ = some (.float .f64 f) := by rw [cell_of_row _ _ _ _ _ _ HN0.out]; rfl
  have e3 : (w.alloc (.cells #[.int .i64 K, .int .i64 N, .float .f64 f, .slice ad n cap] 28)).cell? ⟨w.heap.size, 3, none⟩ = some (.slice ad n cap) := by rw [cell_of_row _ _ _ _ _ _ HN0.out]; rfl
  go_wp2_with fail
  clear e0 e1 e2 e3
  generalize w.alloc (.cells #[.int .i64 K, .int .i64 N, .float .f64 f, .slice ad n cap] 28) = U at *
  refine (spec_ItemOk K N f ad n cap hf hn U).mono ?_
  rintro e u1 ⟨rfl, b1⟩
  obtain ⟨p, hp⟩ : ∃ p, w.heap.size = p := ⟨_, rfl⟩
  have HP := hid hp
  rw [hp] at HN0 HZ0
  try simp only [hp]
  clear hp
  have HB1 := hid (HB0.out.trans (b1.mono HB0.out.size))
  have HN1 := hid ((b1.block p (by have := HZ0.out; omega)).trans HN0.out)
  clear b1
  have e0 : u1.cell? ⟨p, 0, none⟩ = some (.int .i64 K) := by rw [cell_of_row _ _ _ _ _ _ HN1.out]; rfl
  by_cases hok : okI K N f n = true
  · have HOk := hid (show okI K N f zs.length = true by rw [HL.out]; exact hok)
    have hK := of_decide_eq_true (show decide (0 ≤ K ∧ K ≤ 3 ∧ n ≤ 40 ∧ (K = 1 ∨ N = 0) ∧ (K = 2 ∨ f = 0) ∧ (K = 3 ∨ n = 0)) = true from hok)
    have HK := hid hK
    rw [hok]
    clear hok hK
    by_cases hk1 : K = 1
    · subst hk1
      have HT := hid (show txtI 1 N f zs = 105 :: decI N by unfold txtI; rw [HOk.out]; rfl)
      have hcv := Go.Lib.run_convert_bytes_const (P := Tryd.prog) u1 23 5 #[.int .u8 105] 1 1 Tryd.underlying23 Tryd.underlying5
      have HBl := hid (Below.alloc1 u1 (.cells #[.int .u8 105] 5 (1, 2)))
      have HNl := hid (World.news_of_block (heap_alloc_new u1 (.cells #[.int .u8 105] 5 (1, 2))))
      have e1 : (u1.alloc (.cells #[.int .u8 105] 5 (1, 2))).cell? ⟨p, 1, none⟩ = some (.int .i64 N) := (HBl.out.cell (World.block_lt_of_cell? u1 _ (show u1.cell? ⟨p, 1, none⟩ = some (.int .i64 N) by rw [cell_of_row _ _ _ _ _ _ HN1.out]; rfl))).trans (by rw [cell_of_row _ _ _ _ _ _ HN1.out]; rfl)
      go_wp2_with fail
      clear e0 e1 hcv
      refine (spec_l18digits N _ HNb.out).mono ?_
      rintro e w1 ⟨v, rfl, nb, b⟩
      obtain ⟨L, hL⟩ : ∃ L, decI N = L := ⟨_, rfl⟩
      rw [hL] at nb
      have HLL := hid hL
      clear hL
      have HLm := hid (show L.length ≤ 23 by rw [← HLL.out]; exact (decI_len N).2)
      obtain ⟨g, cc, rfl, hl0, hl1, hl2, hl3, hl4, hl5⟩ := nb.ex
      have HC := hid hl5
      have HO1 := hid (show ∀ b', (some ⟨u1.heap.size, 0, none⟩ : Option Addr) = some b' → ∀ j u, [Value.int .u8 105][j]? = some u → w1.cell? (b'.add j) = some u from fun b' e j u hu => by
        cases e
        have := HNl.out j u hu
        exact (b.cell (World.block_lt_of_cell? _ _ this)).trans this)
      have HBw := hid (HB1.out.trans ((HBl.out.trans (b.mono HBl.out.size)).mono HB1.out.size))
      have hsz := HBw.out.size
      have hlm : L.length ≤ 4200000 := by have := HLm.out; omega
      clear nb b hl3 hl4 hl5
      go_wp2_with (at_builtin; refine wpList_append_grows w1 rfl _ _ 23 rfl 5 i0 (.int .u8 0) 1 1 Tryd.underlying23 hi hz0 hz1 hz2 rfl (by decide) (some ⟨u1.heap.size, 0, none⟩) 1 1 [.int .u8 105] rfl (fun e => by cases e) rfl HO1.out ⟨g, 0, none⟩ L.length cc (bys L) rfl (by rw [bys_length, Nat.mul_one]) HC.out (bys_ones L) ?f2 ?f3 ?f4 ?_)
      case f2 => omega
      case f3 => unfold maxLen; omega
      case f4 => omega
      intro v2 w2 hown' hgrow
      have hb2 : Below w1.heap.size w1 w2 := (Below.refl _ _).grown hgrow (Nat.le_refl _) (fun j hj => by cases hj)
      have HB2 := hid (HBw.out.trans (hb2.mono hsz))
      have HO2 := hid (show TxB w.heap.size w2 v2 (105 :: L) from .inr (NewB.lower (NewB.own (b := w1.heap.size) (by rw [List.length_cons, Nat.add_comm]; exact hown') (by simp)) hsz))
      clear hown' hgrow hb2
      go_wp2_with fail
      go_ret
      exact ⟨_, rfl, by rw [HT.out, HLL.out]; exact HO2.out, HB2.out⟩
    · by_cases hk2 : K = 2
      · subst hk2
        have hcv := Go.Lib.run_convert_bytes_const (P := Tryd.prog) u1 23 5 #[.int .u8 102] 1 1 Tryd.underlying23 Tryd.underlying5
        have HBl := hid (Below.alloc1 u1 (.cells #[.int .u8 102] 5 (1, 2)))
        have HNl := hid (World.news_of_block (heap_alloc_new u1 (.cells #[.int .u8 102] 5 (1, 2))))
        have e1 : (u1.alloc (.cells #[.int .u8 102] 5 (1, 2))).cell? ⟨p, 2, none⟩ = some (.float .f64 f) := (HBl.out.cell (World.block_lt_of_cell? u1 _ (show u1.cell? ⟨p, 2, none⟩ = some (.float .f64 f) by rw [cell_of_row _ _ _ _ _ _ HN1.out]; rfl))).trans (by rw [cell_of_row _ _ _ _ _ _ HN1.out]; rfl)
        have HT := hid (show txtI 2 N f zs = 102 :: hexB (hi8 (fbits f) 8) by unfold txtI; rw [HOk.out]; rfl)
        have hl4 : u1.heap.size ≤ (u1.alloc (.cells #[.int .u8 102] 5 (1, 2))).heap.size := HBl.out.size
        go_wp2_with (first
          | (go_at_call 30; refine (spec_FloatBits f hf _).mono ?_; rintro e w1 ⟨rfl, e1'⟩; subst w1)
          | (go_at_call 29; refine (spec_l3high (fbits f) (fbits_lt f hf) _).mono ?_; rintro e w3 ⟨v3, rfl, o3, b3⟩; obtain ⟨a3, c3, rfl, r3, _⟩ := Reads.own o3 (fun i => hi8_bd (fbits f) 8 i); have HB3 := hid b3; have HR3 := hid r3; clear o3 b3 r3))
        refine (spec_l18hex c3 HR3.out (by omega)).mono ?_
        rintro e w1 ⟨v, rfl, o4, hv0, b4⟩
        clear e0 e1 hcv
        have b := HB3.out.trans (b4.mono HB3.out.size)
        obtain ⟨L, hL⟩ : ∃ L, hexB (hi8 (fbits f) 8) = L := ⟨_, rfl⟩
        have HLm := hid (show L.length = 16 by rw [← hL, hexB_len, hi8_length])
        rw [hL] at o4
        have nb := NewB.own o4 (by have := HLm.out; omega)
        have HLL := hid hL
        clear hL o4 b4 hl4 hv0
        obtain ⟨g, cc, rfl, hl0, hl1, hl2, hl3, hl4, hl5⟩ := nb.ex
        have HC := hid hl5
        have HO1 := hid (show ∀ b', (some ⟨u1.heap.size, 0, none⟩ : Option Addr) = some b' → ∀ j u, [Value.int .u8 102][j]? = some u → w1.cell? (b'.add j) = some u from fun b' e j u hu => by
          cases e
          have := HNl.out j u hu
          exact (b.cell (World.block_lt_of_cell? _ _ this)).trans this)
        have HBw := hid (HB1.out.trans ((HBl.out.trans (b.mono HBl.out.size)).mono HB1.out.size))
        have hsz := HBw.out.size
        have hlm : L.length ≤ 4200000 := by have := HLm.out; omega
        clear nb b hl3 hl4 hl5
        go_wp2_with (at_builtin; refine wpList_append_grows w1 rfl _ _ 23 rfl 5 i0 (.int .u8 0) 1 1 Tryd.underlying23 hi hz0 hz1 hz2 rfl (by decide) (some ⟨u1.heap.size, 0, none⟩) 1 1 [.int .u8 102] rfl (fun e => by cases e) rfl HO1.out ⟨g, 0, none⟩ L.length cc (bys L) rfl (by rw [bys_length, Nat.mul_one]) HC.out (bys_ones L) ?f2 ?f3 ?f4 ?_)
        case f2 => omega
        case f3 => unfold maxLen; omega
        case f4 => omega
        intro v2 w2 hown' hgrow
        have hb2 : Below w1.heap.size w1 w2 := (Below.refl _ _).grown hgrow (Nat.le_refl _) (fun j hj => by cases hj)
        have HB2 := hid (HBw.out.trans (hb2.mono hsz))
        have HO2 := hid (show TxB w.heap.size w2 v2 (102 :: L) from .inr (NewB.lower (NewB.own (b := w1.heap.size) (by rw [List.length_cons, Nat.add_comm]; exact hown') (by simp)) hsz))
        clear hown' hgrow hb2
        go_wp2_with fail
        go_ret
        exact ⟨_, rfl, by rw [HT.out, HLL.out]; exact HO2.out, HB2.out⟩
      · by_cases hk3 : K = 3
        · subst hk3
          have hcv := Go.Lib.run_convert_bytes_const (P := Tryd.prog) u1 23 5 #[.int .u8 116] 1 1 Tryd.underlying23 Tryd.underlying5
          have HBl := hid (Below.alloc1 u1 (.cells #[.int .u8 116] 5 (1, 2)))
          have HNl := hid (World.news_of_block (heap_alloc_new u1 (.cells #[.int .u8 116] 5 (1, 2))))
          have e1 : (u1.alloc (.cells #[.int .u8 116] 5 (1, 2))).cell? ⟨p, 3, none⟩ = some (.slice ad n cap) := (HBl.out.cell (World.block_lt_of_cell? u1 _ (show u1.cell? ⟨p, 3, none⟩ = some (.slice ad n cap) by rw [cell_of_row _ _ _ _ _ _ HN1.out]; rfl))).trans (by rw [cell_of_row _ _ _ _ _ _ HN1.out]; rfl)
          have HT := hid (show txtI 3 N f zs = 116 :: hexB zs by unfold txtI; rw [HOk.out]; rfl)
          have HRl := hid (HR.out.below (HB1.out.trans (HBl.out.mono HB1.out.size)) (Nat.le_refl _))
          go_wp2_with fail
          clear e0 e1 hcv
          refine (spec_l18hex cap HRl.out hn).mono ?_
          rintro e w1 ⟨v, rfl, o4, hv0, b⟩
          have hk := HK.out
          by_cases hn0 : n = 0
          · have hv := hv0 hn0
            subst hv
            have hzs : zs = [] := List.length_eq_zero_iff.1 (by rw [HL.out]; exact hn0)
            subst hzs
            have HBw := hid (HB1.out.trans ((HBl.out.trans (b.mono HBl.out.size)).mono HB1.out.size))
            have HO2 := hid (show TxB w.heap.size w1 (.slice (some ⟨u1.heap.size, 0, none⟩) 1 1) (116 :: hexB []) from .inr (NewB.lower (NewB.below (NewB.lit u1 #[.int .u8 116] [116] rfl (by simp) (by unfold maxLen; simp) (1, 2)) b) HB1.out.size))
            clear o4 hv0 b
            go_wp2_with fail
            go_ret
            exact ⟨_, rfl, by rw [HT.out]; exact HO2.out, HBw.out⟩
          · obtain ⟨L, hL⟩ : ∃ L, hexB zs = L := ⟨_, rfl⟩
            have HLm := hid (show L.length = 2 * n by rw [← hL, hexB_len, HL.out])
            rw [hL] at o4
            have nb := NewB.own o4 (by have := HLm.out; omega)
            have HLL := hid hL
            clear hL o4 hv0
            obtain ⟨g, cc, rfl, hl0, hl1, hl2, hl3, hl4, hl5⟩ := nb.ex
            have HC := hid hl5
            have HO1 := hid (show ∀ b', (some ⟨u1.heap.size, 0, none⟩ : Option Addr) = some b' → ∀ j u, [Value.int .u8 116][j]? = some u → w1.cell? (b'.add j) = some u from fun b' e j u hu => by
              cases e
              have := HNl.out j u hu
              exact (b.cell (World.block_lt_of_cell? _ _ this)).trans this)
            have HBw := hid (HB1.out.trans ((HBl.out.trans (b.mono HBl.out.size)).mono HB1.out.size))
            have hsz := HBw.out.size
            have hlm : L.length ≤ 4200000 := by have := HLm.out; omega
            clear nb b hl3 hl4 hl5
            go_wp2_with (at_builtin; refine wpList_append_grows w1 rfl _ _ 23 rfl 5 i0 (.int .u8 0) 1 1 Tryd.underlying23 hi hz0 hz1 hz2 rfl (by decide) (some ⟨u1.heap.size, 0, none⟩) 1 1 [.int .u8 116] rfl (fun e => by cases e) rfl HO1.out ⟨g, 0, none⟩ L.length cc (bys L) rfl (by rw [bys_length, Nat.mul_one]) HC.out (bys_ones L) ?f2 ?f3 ?f4 ?_)
            case f2 => omega
            case f3 => unfold maxLen; omega
            case f4 => omega
            intro v2 w2 hown' hgrow
            have hb2 : Below w1.heap.size w1 w2 := (Below.refl _ _).grown hgrow (Nat.le_refl _) (fun j hj => by cases hj)
            have HB2 := hid (HBw.out.trans (hb2.mono hsz))
            have HO2 := hid (show TxB w.heap.size w2 v2 (116 :: L) from .inr (NewB.lower (NewB.own (b := w1.heap.size) (by rw [List.length_cons, Nat.add_comm]; exact hown') (by simp)) hsz))
            clear hown' hgrow hb2
            go_wp2_with fail
            go_ret
            exact ⟨_, rfl, by rw [HT.out, HLL.out]; exact HO2.out, HB2.out⟩
        · have HT := hid (show txtI K N f zs = [45] by unfold txtI; rw [HOk.out, if_pos rfl, if_neg hk1, if_neg hk2, if_neg hk3])
          have hcv := Go.Lib.run_convert_bytes_const (P := Tryd.prog) u1 23 5 #[.int .u8 45] 1 1 Tryd.underlying23 Tryd.underlying5
          have HBl := hid (Below.alloc1 u1 (.cells #[.int .u8 45] 5 (1, 2)))
          have HBw := hid (HB1.out.trans (HBl.out.mono HB1.out.size))
          have HO2 := hid (show TxB w.heap.size (u1.alloc (.cells #[.int .u8 45] 5 (1, 2))) (.slice (some ⟨u1.heap.size, 0, none⟩) 1 1) [45] from .inr (NewB.lower (NewB.lit u1 #[.int .u8 45] [45] rfl (by simp) (by unfold maxLen; simp) (1, 2)) HB1.out.size))
          go_wp2_with fail
          go_ret
          exact ⟨_, rfl, by rw [HT.out]; exact HO2.out, HBw.out⟩
  · have HNo := hid (show (txtI K N f zs) = [] by unfold txtI; rw [HL.out, if_neg hok])
    rw [Bool.not_eq_true] at hok
    rw [hok]
    clear hok
    go_wp2_with fail
    go_ret
    exact ⟨_, rfl, .inl ⟨HNo.out, rfl⟩, HB1.out⟩
end Go.Proofs.YtoppccfgcccijaaDoor
/- The specification's l18word: a word behind a line. Conditions: at most 2^24 bytes together, the word is not empty. -/

namespace Go.Proofs.YtoppccfgcccijaaDoor
open Go.RowKit
set_option maxRecDepth 100000

/-- A line of the call's own: its row below q, or a constant's bytes. -/
def LineB (B q : Nat) (w : World) (v : Value) (L : List Int) : Prop :=
  (w.ownsRow B 5 1 v L.length (bys L) ∧ ∀ j, v.ownBlock = some j → j < q) ∨ (∃ g0, v = .slice (some ⟨g0, 0, none⟩) L.length L.length ∧ g0 < q ∧ ∀ j u, (bys L)[j]? = some u → w.cell? ((⟨g0, 0, none⟩ : Addr).add j) = some u)
theorem LineB.below {B q : Nat} {w w' : World} {v : Value} {L : List Int} (h : LineB B q w v L) (b : Below w.heap.size w w') : LineB B q w' v L := by
  rcases h with ⟨h, h1⟩ | ⟨g0, hv, hlt, hc⟩
  · exact .inl ⟨owns_below b (Nat.le_refl _) h, h1⟩
  · exact .inr ⟨g0, hv, hlt, fun j u hu => (b.cell (World.block_lt_of_cell? _ _ (hc j u hu))).trans (hc j u hu)⟩
theorem LineB.own {B : Nat} {w : World} {v : Value} {L : List Int} (h : w.ownsRow B 5 1 v L.length (bys L)) : LineB B w.heap.size w v L :=
  .inl ⟨h, fun j hj => (h.lt j hj).2⟩
/-- The word that is put behind a line. -/
structure WordB (q : Nat) (w : World) (v : Value) (M : List Int) : Prop where
  ex : ∃ g o c, v = .slice (some ⟨g, o, none⟩) M.length c ∧ 0 < M.length ∧ q ≤ g ∧ ∀ j u, (bys M)[j]? = some u → w.cell? ((⟨g, o, none⟩ : Addr).add j) = some u
theorem NewB.word {q : Nat} {w : World} {v : Value} {M : List Int} (h : NewB q w v M) : WordB q w v M := by
  obtain ⟨g, c, hv, h0, _, _, h3, _, h5⟩ := h.ex
  exact ⟨⟨g, 0, c, hv, h0, h3, h5⟩⟩
set_option maxHeartbeats 3200000 in
theorem spec_l18word {B q : Nat} {line word : Value} {L M : List Int} {w : World} (hL : LineB B q w line L) (hB : B ≤ w.heap.size) (hM : WordB q w word M) (hb : L.length + M.length ≤ 1000000000) :
    Calls Tryd.prog 42 #[line, word] w fun e w' => ∃ v, e = .returned v ∧ w'.ownsRow B 5 1 v (L ++ 32 :: M).length (bys (L ++ 32 :: M)) ∧ Below B w w' := by
  obtain ⟨i0, hi, hz0, hz1, hz2⟩ := info_parts Tryd.info5
  obtain ⟨g, o, c, rfl, hm0, hqg, hcM⟩ := hM.ex
  have HCM := hid hcM
  have HA1 := hid (Below.alloc1 w (.cells #[.int .u8 32] 5))
  have hsz1 := HA1.out.size
  have hcA : ∀ j u, (bys M)[j]? = some u → (w.alloc (.cells #[.int .u8 32] 5)).cell? ((⟨g, o, none⟩ : Addr).add j) = some u := fun j u hu => (HA1.out.cell (World.block_lt_of_cell? _ _ (hcM j u hu))).trans (hcM j u hu)
  have HCA := hid hcA
  have HAs := hid (alloc_size w (.cells #[.int .u8 32] 5))
  rcases hL with ⟨ho, hj⟩ | ⟨g0, rfl, hlt, hc0⟩
  · have HO := hid (ho.alloc (.cells #[.int .u8 32] 5))
    have HJ := hid hj
    clear ho hj hcA hcM hM
    go_enter Tryd.func42, Tryd.ntmps42
    go_wp2_with (at_builtin; refine wpList_append_own _ rfl _ _ 23 rfl B 5 i0 (.int .u8 0) 1 1 Tryd.underlying23 hi hz0 hz1 hz2 rfl (by decide) _ _ _ rfl HO.out ⟨w.heap.size, 0, none⟩ 1 1 [.int .u8 32] rfl rfl (cell_one_new _ _ _) ?a2 ?a3 ?a4 ?a5 ?_)
    case a2 => intro u hu; simp at hu; subst hu; rfl
    case a3 => unfold maxLen; omega
    case a4 => omega
    case a5 => have := HAs.out; omega
    intro v1 w1 hown' hgrow _
    have HB1 := hid (show Below B w w1 from (HA1.out.mono hB).grown hgrow (by have := HAs.out; omega) (fun j hj => (HO.out.lt j hj).1))
    have hc1 : ∀ j u, (bys M)[j]? = some u → w1.cell? ((⟨g, o, none⟩ : Addr).add j) = some u := fun j u hu =>
      World.grownBy.cell hgrow (HCA.out j u hu) (fun e => by rw [show ((⟨g, o, none⟩ : Addr).add j).block = g by unfold Addr.add; split <;> rfl] at e; have := HJ.out g e.symm; omega)
    have HC1 := hid hc1
    have HO1 := hid hown'
    have hs1 := HB1.out.size
    clear hown' hgrow hc1 HO HJ HCA
    go_wp2_with (at_builtin; refine wpList_append_own _ rfl _ _ 23 rfl B 5 i0 (.int .u8 0) 1 1 Tryd.underlying23 hi hz0 hz1 hz2 rfl (by decide) _ _ _ rfl HO1.out ⟨g, o, none⟩ M.length c (bys M) rfl (by rw [bys_length, Nat.mul_one]) HC1.out (bys_ones M) ?b3 ?b4 ?b5 ?_)
    case b3 => unfold maxLen; omega
    case b4 => omega
    case b5 => omega
    intro v2 w2 hown' hgrow _
    have HB2 := hid (HB1.out.grown hgrow (by omega) (fun j hj => (HO1.out.lt j hj).1))
    have HO2 := hid hown'
    clear hown' hgrow
    go_wp2_with fail
    go_ret
    refine ⟨_, rfl, ?_, HB2.out⟩
    have := HO2.out
    rw [List.length_append, List.length_cons, bys_append]
    rw [show L.length + 1 + M.length = L.length + (M.length + 1) by omega] at this
    try rw [List.append_assoc] at this
    exact this
  · have HO : Hid _ := hid (show ∀ b', (some ⟨g0, 0, none⟩ : Option Addr) = some b' → ∀ j u, (bys L)[j]? = some u → (w.alloc (.cells #[.int .u8 32] 5)).cell? (b'.add j) = some u from fun b' e j u hu => by
      cases e
      exact (HA1.out.cell (World.block_lt_of_cell? _ _ (hc0 j u hu))).trans (hc0 j u hu))
    clear hc0 hcA hcM hM
    go_enter Tryd.func42, Tryd.ntmps42
    go_wp2_with (at_builtin; refine wpList_append_grows _ rfl _ _ 23 rfl 5 i0 (.int .u8 0) 1 1 Tryd.underlying23 hi hz0 hz1 hz2 rfl (by decide) (some ⟨g0, 0, none⟩) L.length L.length (bys L) rfl (fun e => by cases e) (by rw [bys_length, Nat.mul_one]) HO.out ⟨w.heap.size, 0, none⟩ 1 1 [.int .u8 32] rfl rfl (cell_one_new _ _ _) ?a2 ?a3 ?a4 ?a5 ?_)
    case a2 => intro u hu; simp at hu; subst hu; rfl
    case a3 => omega
    case a4 => unfold maxLen; omega
    case a5 => omega
    intro v1 w1 hown' hgrow
    have HB1 := hid (show Below B w w1 from (HA1.out.mono hB).grown hgrow (by have := HAs.out; omega) (fun j hj => by cases hj))
    have hc1 : ∀ j u, (bys M)[j]? = some u → w1.cell? ((⟨g, o, none⟩ : Addr).add j) = some u := fun j u hu =>
      World.grownBy.cell hgrow (HCA.out j u hu) (fun e => by cases e)
    have HC1 := hid hc1
    have HO1 := hid (owns_lower hown' (show B ≤ _ by have := HAs.out; omega))
    have hs1 := HB1.out.size
    clear hown' hgrow hc1 HO HCA
    go_wp2_with (at_builtin; refine wpList_append_own _ rfl _ _ 23 rfl B 5 i0 (.int .u8 0) 1 1 Tryd.underlying23 hi hz0 hz1 hz2 rfl (by decide) _ _ _ rfl HO1.out ⟨g, o, none⟩ M.length c (bys M) rfl (by rw [bys_length, Nat.mul_one]) HC1.out (bys_ones M) ?b3 ?b4 ?b5 ?_)
    case b3 => unfold maxLen; omega
    case b4 => omega
    case b5 => omega
    intro v2 w2 hown' hgrow _
    have HB2 := hid (HB1.out.grown hgrow (by omega) (fun j hj => (HO1.out.lt j hj).1))
    have HO2 := hid hown'
    clear hown' hgrow
    go_wp2_with fail
    go_ret
    refine ⟨_, rfl, ?_, HB2.out⟩
    have := HO2.out
    rw [List.length_append, List.length_cons, bys_append]
    rw [show L.length + 1 + M.length = L.length + (M.length + 1) by omega] at this
    try rw [List.append_assoc] at this
    exact this
end Go.Proofs.YtoppccfgcccijaaDoor
/- Bytes as strings: what the conversion gives, and how two such strings are held against each other. -/




namespace Go.Proofs.YtoppccfgcccijaaDoor
open Go.RowKit

def us (zs : List Int) : List UInt8 := zs.map fun n => UInt8.ofNat n.toNat
def inB (zs : List Int) : Prop := ∀ i, 0 ≤ zs.getD i 0 ∧ zs.getD i 0 ≤ 255

theorem str_list (zs : List Int) : (str zs).toList = us zs := by
  rw [ByteArray.toList_eq]
  rfl

theorem inB.head {x : Int} {xs : List Int} (h : inB (x :: xs)) : 0 ≤ x ∧ x ≤ 255 := h 0
theorem inB.tail {x : Int} {xs : List Int} (h : inB (x :: xs)) : inB xs := fun i => h (i + 1)

theorem u8_lt (x y : Int) (hx : 0 ≤ x ∧ x ≤ 255) (hy : 0 ≤ y ∧ y ≤ 255) : (UInt8.ofNat x.toNat < UInt8.ofNat y.toNat) ↔ x < y := by
  rw [UInt8.lt_iff_toNat_lt, UInt8.toNat_ofNat', UInt8.toNat_ofNat']
  omega
theorem u8_eq (x y : Int) (hx : 0 ≤ x ∧ x ≤ 255) (hy : 0 ≤ y ∧ y ≤ 255) : (UInt8.ofNat x.toNat = UInt8.ofNat y.toNat) ↔ x = y := by
  rw [← UInt8.toNat_inj, UInt8.toNat_ofNat', UInt8.toNat_ofNat']
  omega

theorem less_txt : ∀ (zs ys : List Int), inB zs → inB ys → Op.bytesLess (us zs) (us ys) = decide (txt zs ys = -1)
  | [], [], _, _ => rfl
  | [], _ :: _, _, _ => rfl
  | _ :: _, [], _, _ => rfl
  | x :: xs, y :: ys, hx, hy => by
    have ih := less_txt xs ys hx.tail hy.tail
    show (decide (UInt8.ofNat x.toNat < UInt8.ofNat y.toNat) || (UInt8.ofNat x.toNat == UInt8.ofNat y.toNat && Op.bytesLess (us xs) (us ys))) = _
    rw [ih]
    have e1 := u8_lt x y hx.head hy.head
    have e2 := u8_eq x y hx.head hy.head
    show _ = decide ((if x < y then -1 else if y < x then 1 else txt xs ys) = -1)
    by_cases h1 : x < y
    · rw [if_pos h1, decide_eq_true (e1.2 h1)]; rfl
    · rw [if_neg h1, decide_eq_false (fun h => h1 (e1.1 h))]
      by_cases h2 : y < x
      · rw [if_pos h2, beq_eq_false_iff_ne.2 (fun h => by have := e2.1 h; omega)]; rfl
      · rw [if_neg h2, beq_iff_eq.2 (e2.2 (by omega))]; simp

theorem eq_txt : ∀ (zs ys : List Int), inB zs → inB ys → (us zs == us ys) = decide (txt zs ys = 0)
  | [], [], _, _ => rfl
  | [], _ :: _, _, _ => rfl
  | _ :: _, [], _, _ => rfl
  | x :: xs, y :: ys, hx, hy => by
    have ih := eq_txt xs ys hx.tail hy.tail
    show (UInt8.ofNat x.toNat == UInt8.ofNat y.toNat && (us xs == us ys)) = _
    rw [ih]
    have e2 := u8_eq x y hx.head hy.head
    show _ = decide ((if x < y then -1 else if y < x then 1 else txt xs ys) = 0)
    by_cases h1 : x < y
    · rw [if_pos h1, beq_eq_false_iff_ne.2 (fun h => by have := e2.1 h; omega)]; rfl
    · rw [if_neg h1]
      by_cases h2 : y < x
      · rw [if_pos h2, beq_eq_false_iff_ne.2 (fun h => by have := e2.1 h; omega)]; rfl
      · rw [if_neg h2, beq_iff_eq.2 (e2.2 (by omega))]; simp

theorem txt_zero : ∀ (zs ys : List Int), txt zs ys = 0 ↔ zs = ys
  | [], [] => by simp [txt]
  | [], _ :: _ => by simp [txt]
  | _ :: _, [] => by simp [txt]
  | x :: xs, y :: ys => by
    have ih := txt_zero xs ys
    rw [txt]
    by_cases h1 : x < y
    · rw [if_pos h1]
      constructor
      · intro h; omega
      · intro h; have := (List.cons.inj h).1; omega
    · rw [if_neg h1]
      by_cases h2 : y < x
      · rw [if_pos h2]
        constructor
        · intro h; omega
        · intro h; have := (List.cons.inj h).1; omega
      · rw [if_neg h2, ih]
        have : x = y := by omega
        subst this
        simp

theorem txt_range : ∀ (zs ys : List Int), txt zs ys = -1 ∨ txt zs ys = 0 ∨ txt zs ys = 1
  | [], [] => .inr (.inl rfl)
  | [], _ :: _ => .inl rfl
  | _ :: _, [] => .inr (.inr rfl)
  | x :: xs, y :: ys => by
    have ih := txt_range xs ys
    rw [txt]
    by_cases h1 : x < y
    · rw [if_pos h1]; exact .inl rfl
    · rw [if_neg h1]
      by_cases h2 : y < x
      · rw [if_pos h2]; exact .inr (.inr rfl)
      · rw [if_neg h2]; exact ih

end Go.Proofs.YtoppccfgcccijaaDoor
/- Decimal digits as the library's numerals tell them, both ways. No program, no conditions. -/




namespace Go.Proofs.YtoppccfgcccijaaDoor
open Go.RowKit
set_option maxRecDepth 100000

theorem us_app18 (a b : List Int) : us (a ++ b) = us a ++ us b := by simp [us]
theorem u8_of18 {n : Nat} (h : n ≤ 255) : (UInt8.ofNat n).toNat = n := by
  rw [UInt8.toNat_ofNat']; omega
theorem dec_low18 : ∀ (f n : Nat), n < 10 ^ (f + 1) → us (lowD f n).reverse = Lib.decDigits n
  | 0, n, h => by
    rw [Lib.decDigits, dif_pos (by simpa using h)]
    simp only [lowD, List.reverse_singleton, us, List.map_cons, List.map_nil]
    congr 2
  | f + 1, n, h => by
    by_cases hn : 9 < n
    · rw [lowD_big hn, List.reverse_cons, us_app18, dec_low18 f (n / 10) (by rw [Nat.pow_succ] at h; omega)]
      rw [show Lib.decDigits n = Lib.decDigits (n / 10) ++ [UInt8.ofNat (48 + n % 10)] from by rw [Lib.decDigits, dif_neg (show ¬ n < 10 by omega)]]
      congr 1
    · rw [lowD_one hn, Lib.decDigits, dif_pos (by omega)]
      simp only [List.reverse_singleton, us, List.map_cons, List.map_nil]
      congr 2
theorem dec_us18 {n : Nat} (h : n ≤ 9223372036854775808) : us (decN n) = Lib.decDigits n := dec_low18 20 n (by omega)
theorem itoa_dec18 {n : Int} (h : -9223372036854775808 ≤ n ∧ n ≤ 9223372036854775807) : Lib.itoa n = us (decI n) := by
  unfold Lib.itoa decI
  split
  · rw [show n.natAbs = (-n).toNat by omega, ← dec_us18 (by omega)]; rfl
  · rw [← dec_us18 (by omega)]
theorem str_itoa18 {n : Int} (h : -9223372036854775808 ≤ n ∧ n ≤ 9223372036854775807) : (⟨(Lib.itoa n).toArray⟩ : ByteArray) = str (decI n) := by rw [itoa_dec18 h]; rfl
theorem parse_dec18 : ∀ (f n : Nat) (r : List UInt8), n < 10 ^ (f + 1) → n ≤ 9223372036854775808 → Lib.parseUint10 0 (us (lowD f n).reverse ++ r) = Lib.parseUint10 n r
  | 0, n, r, h, hb => by
    have hd : (UInt8.ofNat (48 + (n : Int)).toNat).toNat = 48 + n := by rw [show (48 + (n : Int)).toNat = 48 + n by omega]; exact u8_of18 (by simp at h; omega)
    simp only [lowD, List.reverse_singleton, us, List.map_cons, List.map_nil, List.cons_append, List.nil_append, Lib.parseUint10]
    rw [hd, if_pos (by simp at h; omega), if_neg (by omega), if_neg (by simp at h; omega)]
    congr 1; omega
  | f + 1, n, r, h, hb => by
    by_cases hn : 9 < n
    · rw [lowD_big hn, List.reverse_cons, us_app18, List.append_assoc, parse_dec18 f (n / 10) _ (by rw [Nat.pow_succ] at h; omega) (by omega)]
      have hd : (UInt8.ofNat (48 + (n : Int) % 10).toNat).toNat = 48 + n % 10 := by rw [show (48 + (n : Int) % 10).toNat = 48 + n % 10 by omega]; exact u8_of18 (by omega)
      simp only [us, List.map_cons, List.map_nil, List.cons_append, List.nil_append, Lib.parseUint10]
      rw [hd, if_pos (by omega), if_neg (by omega), if_neg (by omega)]
      congr 1; omega
    · have hd : (UInt8.ofNat (48 + (n : Int)).toNat).toNat = 48 + n := by rw [show (48 + (n : Int)).toNat = 48 + n by omega]; exact u8_of18 (by omega)
      rw [lowD_one hn]
      simp only [List.reverse_singleton, us, List.map_cons, List.map_nil, List.cons_append, List.nil_append, Lib.parseUint10]
      rw [hd, if_pos (by omega), if_neg (by omega), if_neg (by omega)]
      congr 1; omega
theorem parse_decN18 {n : Nat} (h : n ≤ 9223372036854775808) : Lib.parseMag (us (decN n)) = .ok n := by
  have h1 := parse_dec18 20 n [] (by omega) h
  rw [List.append_nil] at h1
  have hl := decN_len n
  unfold Lib.parseMag
  rw [if_neg (by intro e; rw [us, List.map_eq_nil_iff] at e; rw [e] at hl; simp at hl)]
  exact h1
theorem atoi_dec18 {n : Int} (h : -9223372036854775808 ≤ n ∧ n ≤ 9223372036854775807) : Lib.atoiAll (us (decI n)) = .ok n := by
  unfold decI
  split
  · rename_i hn
    have hp := parse_decN18 (n := (-n).toNat) (by omega)
    show Lib.atoiAll ((45 : UInt8) :: us (decN (-n).toNat)) = _
    simp only [Lib.atoiAll]
    rw [if_pos (Or.inr (by decide)), hp]
    simp only
    rw [if_neg (by intro e; exact e.1 (by decide)), if_neg (by omega), if_pos (by decide)]
    congr 1; omega
  · rename_i hn
    have hp := parse_decN18 (n := n.toNat) (by omega)
    have hl := decN_len n.toNat
    have hb := decN_bd (n := n.toNat) (by omega)
    cases hd : decN n.toNat with
    | nil => rw [hd] at hl; simp at hl
    | cons c r =>
      have hc := hb c (by rw [hd]; exact List.mem_cons_self ..)
      rw [hd] at hp
      have hcn : (UInt8.ofNat c.toNat).toNat = c.toNat := u8_of18 (by omega)
      show Lib.atoiAll (UInt8.ofNat c.toNat :: us r) = _
      simp only [Lib.atoiAll]
      rw [hcn, if_neg (by omega)]
      rw [show UInt8.ofNat c.toNat :: us r = us (c :: r) from rfl, hp]
      simp only
      rw [if_neg (by omega), if_neg (by omega), if_neg (by omega)]
      congr 1; omega
end Go.Proofs.YtoppccfgcccijaaDoor
/- Bytes of a string, as a row that is the call's own: read, marked. Conditions: at most 2^21 bytes where they are marked. -/



namespace Go.Proofs.YtoppccfgcccijaaDoor
open Go.RowKit
set_option maxRecDepth 100000

/-- A row of bytes of the call's own, none of whose first n places is fixed. -/
def OwF (B : Nat) (w : World) (v : Value) (n : Nat) (L : List Value) : Prop :=
  (v = .slice none 0 0 ∧ n = 0 ∧ L = []) ∨
  ∃ g cap cur fz, v = .slice (some ⟨g, 0, none⟩) n cap ∧ B ≤ g ∧ w.heap[g]? = some (.cells cur 5 fz) ∧ (∀ j, j < n → ¬ (fz.1 ≤ j ∧ j < fz.2)) ∧ L.length = n ∧ n ≤ cur.size ∧ cur.toList.take n = L
theorem OwF.of {B n : Nat} {w : World} {v : Value} {L : List Value} (h : w.ownsRow B 5 1 v n L) : OwF B w v n L := by
  have hl := h.1
  rcases h.2 with ⟨rfl, rfl⟩ | ⟨g, cap, cur, rfl, hb, hg, hnc, hcm, hcs, htake⟩
  · exact .inl ⟨rfl, rfl, List.eq_nil_of_length_eq_zero (by omega)⟩
  · exact .inr ⟨g, cap, cur, (0, 0), rfl, hb, hg, fun j _ e => by simp at e, by omega, by omega, by rw [Nat.mul_one] at htake; exact htake⟩
theorem OwF.below {B C n : Nat} {w w' : World} {v : Value} {L : List Value} (h : OwF B w v n L) (b : Below C w w') (hC : w.heap.size ≤ C) : OwF B w' v n L := by
  rcases h with h | ⟨g, cap, cur, fz, rfl, hb, hg, rest⟩
  · exact .inl h
  · exact .inr ⟨g, cap, cur, fz, rfl, hb, (b.block g (by have := (Array.getElem?_eq_some_iff.1 hg).1; omega)).trans hg, rest⟩
theorem OwF.alloc {B n : Nat} {w : World} {v : Value} {L : List Value} (h : OwF B w v n L) (o : Obj) : OwF B (w.alloc o) v n L := h.below ((Below.refl _ _).alloc (Nat.le_refl _) o) (Nat.le_refl _)
theorem OwF.kept {B n : Nat} {w w' : World} {v : Value} {L : List Value} {row : Option Nat} (h : OwF B w v n L) (hg : w.grownBy w' row) (hne : v.ownBlock = none ∨ v.ownBlock ≠ row) : OwF B w' v n L := by
  rcases h with h | ⟨g, cap, cur, fz, rfl, hb, hgg, rest⟩
  · exact .inl h
  · exact .inr ⟨g, cap, cur, fz, rfl, hb, by rw [hg.block g (Array.getElem?_eq_some_iff.1 hgg).1 (by simpa [Value.ownBlock] using hne)]; exact hgg, rest⟩
theorem Reads.ownF {w : World} {base : Nat} {v : Value} {n : Nat} {zs : List Int} (h : OwF base w v n (bys zs)) (hbd : ∀ i, 0 ≤ zs.getD i 0 ∧ zs.getD i 0 ≤ 255) :
    ∃ ad cap, v = .slice ad n cap ∧ Reads w ad n zs ∧ (ad = none ∨ ∃ g, ad = some ⟨g, 0, none⟩ ∧ base ≤ g ∧ g < w.heap.size) := by
  rcases h with ⟨rfl, rfl, hL⟩ | ⟨g, cap, cur, fz, rfl, hb, hg, _, hl, hn, htake⟩
  · exact ⟨none, 0, rfl, ⟨by have := congrArg List.length hL; simpa [bys] using this, .inl rfl, hbd⟩, .inl rfl⟩
  · have hz : zs.length = n := by rw [← hl, bys_length]
    refine ⟨_, cap, rfl, ⟨hz, .inr ⟨g, 0, rfl, fun i hi => ?_⟩, hbd⟩, .inr ⟨g, rfl, hb, (Array.getElem?_eq_some_iff.1 hg).1⟩⟩
    rw [Nat.zero_add, cell_of_row _ _ _ _ _ _ hg]
    have h1 : (cur.toList.take n)[i]? = (bys zs)[i]? := by rw [htake]
    rw [List.getElem?_take, if_pos hi] at h1
    rw [← Array.getElem?_toList, h1]
    simp [bys, List.getD, List.getElem?_eq_getElem (show i < zs.length by omega)]
theorem OwF.ge {B n : Nat} {w : World} {v : Value} {L : List Value} (h : OwF B w v n L) : ∀ k, v.ownBlock = some k → B ≤ k ∧ k < w.heap.size := by
  intro k hk
  rcases h with ⟨rfl, _⟩ | ⟨g, cap, cur, fz, rfl, hb, hg, _⟩
  · simp [Value.ownBlock] at hk
  · simp [Value.ownBlock] at hk
    subst hk
    exact ⟨hb, (Array.getElem?_eq_some_iff.1 hg).1⟩
theorem OwF.mono {B C n : Nat} {w : World} {v : Value} {L : List Value} (h : OwF B w v n L) (hc : C ≤ B) : OwF C w v n L := by
  rcases h with h | ⟨g, cap, cur, fz, hv, hb, rest⟩
  · exact .inl h
  · exact .inr ⟨g, cap, cur, fz, hv, Nat.le_trans hc hb, rest⟩
theorem OwF.stored {B n g cap : Nat} {w : World} {L : List Value} (h : OwF B w (.slice (some ⟨g, 0, none⟩) n cap) n L) (j : Nat) (u : Value) :
    OwF B (w.setCell ⟨g, j, none⟩ u) (.slice (some ⟨g, 0, none⟩) n cap) n (L.set j u) ∧ w.grownBy (w.setCell ⟨g, j, none⟩ u) (some g) := by
  rcases h with ⟨h', _⟩ | ⟨g', cap', cur, fz, h', hb, hg, hf, hl, hn, htake⟩
  · simp at h'
  · simp only [Value.slice.injEq, Option.some.injEq, Addr.mk.injEq, and_true, true_and] at h'
    obtain ⟨rfl, rfl⟩ := h'
    refine ⟨.inr ⟨g, cap, cur.setIfInBounds j u, fz, rfl, hb, ?_, hf, by rw [List.length_set]; exact hl, by rw [Array.size_setIfInBounds]; exact hn, ?_⟩, ⟨rfl, rfl, rfl, by simp, fun k _ hk => heap_setCell_other w ⟨g, j, none⟩ k u (fun e => hk (by simp [e]))⟩⟩
    · rw [setCell_eq_setRow w g j cur 5 fz u hg]
      exact setRow_heap w g cur _ 5 fz hg
    · rw [Array.toList_setIfInBounds, ← htake, List.take_set]
theorem OwF.at {B n g cap : Nat} {w : World} {L : List Value} (h : OwF B w (.slice (some ⟨g, 0, none⟩) n cap) n L) {j : Nat} (hj : j < n) : w.cell? ⟨g, j, none⟩ = L[j]? ∧ w.frozen? ⟨g, j, none⟩ = false := by
  rcases h with ⟨h', _⟩ | ⟨g', cap', cur, fz, h', hb, hg, hf, hl, hn, htake⟩
  · simp at h'
  · simp only [Value.slice.injEq, Option.some.injEq, Addr.mk.injEq, and_true, true_and] at h'
    obtain ⟨rfl, rfl⟩ := h'
    refine ⟨?_, ?_⟩
    · rw [cell_of_row _ _ _ _ _ _ hg, ← htake, List.getElem?_take, if_pos hj, Array.getElem?_toList]
    · obtain ⟨lo, hi⟩ := fz
      have := hf j hj
      simp only [World.frozen?, hg]
      simp only at this
      rw [← Bool.not_eq_true]
      intro e
      simp at e
      omega
set_option maxHeartbeats 800000 in
theorem markByteS_F {B n : Nat} {v : Value} (k : Int) {xs : List Value} {w : World} (hn : n ≤ 2097152) (hk0 : 0 ≤ k) (hk1 : k ≤ 1000000000) (hown : OwF B w v n xs) :
    Calls Tryd.prog 13 #[v, .int .i64 k] w fun e w' => e = .returned (.int .i64 (k + n)) ∧ OwF B w' v n (bys (marks k n)) ∧ w.grownBy w' v.ownBlock := by
  by_cases hv : v = .slice none 0 0 ∧ n = 0 ∧ xs = []
  · obtain ⟨rfl, rfl, rfl⟩ := hv
    refine (markByteS_zero none 0 k w).mono fun e w' ⟨he, hw⟩ => ?_
    subst hw
    exact ⟨by rw [he]; simp, .inl ⟨rfl, rfl, by simp [marks, bys]⟩, grown_refl _ _⟩
  · have hx := hown
    rcases hown with h | ⟨g, cap, cur, fz, rfl, hb, hg, hf, hl, hnc, htake⟩
    · exact absurd h hv
    clear hv
    have HG : Hid (w.grownBy w (some g)) := hid ⟨rfl, rfl, rfl, Nat.le_refl _, fun _ _ _ => rfl⟩
    have HX := hid hx
    clear hx hf hg hb htake hnc
    go_enter Tryd.func13, Tryd.ntmps13
    go_wp2
    go_loopw [1, 5] (fun kk i wr => ∃ j : Nat, j ≤ n ∧ i = .int .i64 j ∧ kk = .int .i64 (k + j) ∧ Hid (OwF B wr (.slice (some ⟨g, 0, none⟩) n cap) n (bys (marks k j) ++ xs.drop j)) ∧ Hid (w.grownBy wr (some g))) (fun _ i _ => n - (intOf i).toNat)
    case atStart => exact ⟨0, Nat.zero_le _, rfl, by simp, by simpa [marks, bys] using HX, HG⟩
    case round =>
      obtain ⟨j, hj, rfl, rfl, hown', hg⟩ := hrel
      by_cases hlt : j < n
      · obtain ⟨hc, hfr⟩ := hown'.out.at hlt
        have hcy : ∃ v, wr.cell? ⟨g, j, none⟩ = some v := by
          rw [hc]
          exact ⟨_, List.getElem?_eq_getElem (by simp [bys, marks]; omega)⟩
        obtain ⟨v, hcy⟩ := hcy
        have R := hown'.out.stored j (.int .u8 ((k + j) % 256))
        rw [set_mid _ xs j _ (by simp [bys, marks]) (by omega)] at R
        have R1 := hid R
        clear R hown' hc
        go_wp2
        go_roundw
        case rel =>
          refine ⟨j + 1, by omega, by go_num, by go_num, ?_, hid (grown_trans hg.out R1.out.2)⟩
          rw [marks_succ, bys_append]
          exact hid R1.out.1
        case measure => simp [intOf]; omega
      · go_wp2
        go_ret
        obtain rfl : j = n := by omega
        have h1 := hown'.out
        rw [List.drop_eq_nil_of_le (by omega), List.append_nil] at h1
        exact ⟨rfl, h1, hg.out⟩
/-- The bytes of a string. -/
theorem str_size18 (L : List Int) : (str L).size = L.length := by simp [str, ByteArray.size]
theorem str_cells18 {L : List Int} (hL : ∀ i, 0 ≤ L.getD i 0 ∧ L.getD i 0 ≤ 255) : ((str L).data.map fun b => Value.int .u8 b.toNat).toList = bys L := by
  simp only [str, bys, Array.toList_map, List.map_map]
  apply List.map_congr_left
  intro z hz
  obtain ⟨i, hi, rfl⟩ := List.getElem_of_mem hz
  have h := hL i
  rw [List.getD_eq_getElem?_getD, List.getElem?_eq_getElem hi] at h
  simp only [Option.getD_some] at h
  simp only [Function.comp]
  congr 1
  rw [UInt8.toNat_ofNat']
  omega
theorem bytes_own18 {L : List Int} (hL : ∀ i, 0 ≤ L.getD i 0 ∧ L.getD i 0 ≤ 255) (w : World) (c : Nat) : OwF w.heap.size (Lib.bytesWorld w 5 (str L)) (.slice (some ⟨w.heap.size, 0, none⟩) L.length c) L.length (bys L) := by
  have hs := str_size18 L
  refine .inr ⟨w.heap.size, c, _, _, rfl, Nat.le_refl _, Lib.bytesWorld_at_new w 5 (str L), fun j hj e => ?_, bys_length L, ?_, ?_⟩
  · simp only [Lib.bytesCells, Array.size_append, Array.size_map] at e
    have : (str L).data.size = L.length := hs
    omega
  · simp only [Lib.bytesCells, Array.size_append, Array.size_map]
    have : (str L).data.size = L.length := hs
    omega
  · rw [Lib.bytesCells, Array.toList_append, str_cells18 hL, List.take_append_of_le_length (by rw [bys_length]; exact Nat.le_refl _), List.take_of_length_le (by rw [bys_length]; exact Nat.le_refl _)]
theorem bytes_below18 (w : World) (s : ByteArray) (e : TypeId) : Below w.heap.size w (Lib.bytesWorld w e s) :=
  ⟨rfl, rfl, rfl, by rw [Lib.bytesWorld_size]; omega, fun k hk => Lib.bytesWorld_at_old w e s k hk⟩
end Go.Proofs.YtoppccfgcccijaaDoor
/- The library's contract of strconv.Itoa, laid at this program. No conditions but its own. -/


namespace Go.Proofs.YtoppccfgcccijaaDoor
open Go.RowKit Go.Shelf
set_option maxRecDepth 100000

def sh_laysM171_ren : Go.Shelf.Ren := ⟨fun | 171 => 46 | 243 => 60 | 246 => 73 | 283 => 83 | 284 => 84 | 285 => 85 | 286 => 86 | 129 => 94 | 317 => 93 | 318 => 95 | 319 => 96 | 320 => 97 | 337 => 98 | 338 => 99 | n => n, fun | 3 => 3 | 9 => 9 | 2 => 2 | 4 => 4 | 171 => 109 | 0 => 0 | 53 => 54 | 37 => 23 | 5 => 5 | 173 => 112 | 212 => 124 | 51 => 125 | 20 => 20 | 213 => 126 | 46 => 77 | 232 => 133 | 233 => 134 | n => n, fun | 17 => 3 | 18 => 5 | 19 => 6 | n => n⟩
theorem sh_laysM171 : Go.Proofs.LaysM.n171 Tryd.prog sh_laysM171_ren := {
  mixed := by kernel_rfl
  f129 := Tryd.func94.trans (congrArg some (by kernel_rfl))
  f171 := Tryd.func46.trans (congrArg some (by kernel_rfl))
  f243 := Tryd.func60.trans (congrArg some (by kernel_rfl))
  f246 := Tryd.func73.trans (congrArg some (by kernel_rfl))
  f283 := Tryd.func83.trans (congrArg some (by kernel_rfl))
  f284 := Tryd.func84.trans (congrArg some (by kernel_rfl))
  f285 := Tryd.func85.trans (congrArg some (by kernel_rfl))
  f286 := Tryd.func86.trans (congrArg some (by kernel_rfl))
  f317 := Tryd.func93.trans (congrArg some (by kernel_rfl))
  f318 := Tryd.func95.trans (congrArg some (by kernel_rfl))
  f319 := Tryd.func96.trans (congrArg some (by kernel_rfl))
  f320 := Tryd.func97.trans (congrArg some (by kernel_rfl))
  f337 := Tryd.func98.trans (congrArg some (by kernel_rfl))
  f338 := Tryd.func99.trans (congrArg some (by kernel_rfl))
  t0 := Tryd.underlying0
  a0 := Tryd.isAgg0
  z0 := Tryd.sizeOf0
  v0 := Tryd.zeroValue0
  t2 := Tryd.underlying2
  a2 := Tryd.isAgg2
  z2 := Tryd.sizeOf2
  v2 := Tryd.zeroValue2
  t3 := Tryd.underlying3
  a3 := Tryd.isAgg3
  z3 := Tryd.sizeOf3
  v3 := Tryd.zeroValue3
  t4 := Tryd.underlying4
  a4 := Tryd.isAgg4
  z4 := Tryd.sizeOf4
  v4 := Tryd.zeroValue4
  t5 := Tryd.underlying5
  a5 := Tryd.isAgg5
  z5 := Tryd.sizeOf5
  v5 := Tryd.zeroValue5
  t9 := Tryd.underlying9
  a9 := Tryd.isAgg9
  z9 := Tryd.sizeOf9
  v9 := Tryd.zeroValue9
  t20 := Tryd.underlying20
  a20 := Tryd.isAgg20
  z20 := Tryd.sizeOf20
  v20 := Tryd.zeroValue20
  t37 := Tryd.underlying23
  a37 := Tryd.isAgg23
  z37 := Tryd.sizeOf23
  v37 := Tryd.zeroValue23
  t46 := Tryd.underlying77
  a46 := Tryd.isAgg77
  z46 := Tryd.sizeOf77
  v46 := Tryd.zeroValue77
  t51 := Tryd.underlying125
  a51 := Tryd.isAgg125
  z51 := Tryd.sizeOf125
  v51 := Tryd.zeroValue125
  t53 := Tryd.underlying54
  a53 := Tryd.isAgg54
  z53 := Tryd.sizeOf54
  v53 := Tryd.zeroValue54
  t171 := Tryd.underlying109
  a171 := Tryd.isAgg109
  z171 := Tryd.sizeOf109
  v171 := Tryd.zeroValue109
  t173 := Tryd.underlying112
  a173 := Tryd.isAgg112
  z173 := Tryd.sizeOf112
  v173 := Tryd.zeroValue112
  t212 := Tryd.underlying124
  a212 := Tryd.isAgg124
  z212 := Tryd.sizeOf124
  v212 := Tryd.zeroValue124
  t213 := Tryd.underlying126
  a213 := Tryd.isAgg126
  z213 := Tryd.sizeOf126
  t232 := Tryd.underlying133
  a232 := Tryd.isAgg133
  z232 := Tryd.sizeOf133
  v232 := Tryd.zeroValue133
  t233 := Tryd.underlying134
  a233 := Tryd.isAgg134
  z233 := Tryd.sizeOf134
  v233 := Tryd.zeroValue134
  g17 := by kernel_rfl
  g18 := by kernel_rfl
  g19 := by kernel_rfl
  i0 := by kernel_rfl
  i2 := by kernel_rfl
  i3 := by kernel_rfl
  i4 := by kernel_rfl
  i5 := by kernel_rfl
  i9 := by kernel_rfl
  i20 := by kernel_rfl
  i37 := by kernel_rfl
  i46 := by kernel_rfl
  i51 := by kernel_rfl
  i53 := by kernel_rfl
  i171 := by kernel_rfl
  i173 := by kernel_rfl
  i212 := by kernel_rfl
  i232 := by kernel_rfl
  i233 := by kernel_rfl
  m17 := by kernel_rfl
  m18 := by kernel_rfl
  m19 := by kernel_rfl }
open Go.RowKit Go.Sort Go.Lib in
theorem sh_strconv_Itoa (n : Int) (h0 : -9223372036854775808 ≤ n) (h1 : n ≤ 9223372036854775807) (w : World) (htab : Lib.TabIs Tryd.prog w "internal/strconv.uint64pow10" .u64 Lib.pow10Tab) :
    Calls Tryd.prog 46 #[.int .i64 n] w fun e w' => e = .returned (.string ⟨(Lib.itoa n).toArray⟩) ∧ ∃ k os, w' = grow (w.drewN k) os := Any.strconv_Itoa sh_laysM171 n h0 h1 w htab
end Go.Proofs.YtoppccfgcccijaaDoor
/- The contract of the specification's KeyBytes. Conditions: texts of at most 2^21 bytes. -/


namespace Go.Proofs.YtoppccfgcccijaaDoor
open Go.RowKit

/-- A key's bytes. -/
def keyB (K N : Int) (f n : Nat) (zs : List Int) : List Int := if okK K N f n = true then bytesI K N (frank f) zs else []

end Go.Proofs.YtoppccfgcccijaaDoor
/- Eight bytes, high first: the program's putHighFirst. -/


namespace Go.Proofs.YtoppccfgcccijaaDoor
open Go.RowKit

/-- What has been written behind k rounds. -/
def hiP (x k : Nat) : List Value := List.replicate (8 - k) (Value.int .u8 0) ++ bys ((hi8 x 8).drop (8 - k))
theorem hiP_step (x k : Nat) (h : k < 8) : (hiP x k).set (7 - k) (.int .u8 (hb x (7 - k))) = hiP x (k + 1) := by
  match k, h with
  | 0, _ => rfl
  | 1, _ => rfl
  | 2, _ => rfl
  | 3, _ => rfl
  | 4, _ => rfl
  | 5, _ => rfl
  | 6, _ => rfl
  | 7, _ => rfl
theorem hiP_cell (x k : Nat) (h : k < 8) : (hiP x k)[7 - k]? = some (.int .u8 0) := by
  match k, h with
  | 0, _ => rfl
  | 1, _ => rfl
  | 2, _ => rfl
  | 3, _ => rfl
  | 4, _ => rfl
  | 5, _ => rfl
  | 6, _ => rfl
  | 7, _ => rfl
theorem hb_sh (x k : Nat) (h : k < 8) : hb x (7 - k) = ((x / 256 ^ k : Nat) : Int) % 256 := by
  unfold hb
  rw [show 7 - (7 - k) = k by omega, Nat.pow_mul]
  show ((x / 256 ^ k % 256 : Nat) : Int) = _
  omega
theorem sh_next (x k : Nat) : x / 256 ^ (k + 1) = x / 256 ^ k / 256 := by
  rw [Nat.pow_succ, Nat.div_div_eq_div_mul]

set_option maxRecDepth 100000 in
set_option maxHeartbeats 1600000 in
theorem impl_putHigh (x : Nat) (hx : x < 18446744073709551616) (w : World) :
    Calls Tryd.prog 61 #[.int .u64 x] w fun e w' => ∃ v, e = .returned v ∧ w'.ownsRow w.heap.size 5 1 v 8 (bys (hi8 x 8)) ∧ Below w.heap.size w w' := by
  obtain ⟨i0, hi, hz0, hz1, hz2⟩ := info_parts Tryd.info5
  go_enter Tryd.func61, Tryd.ntmps61
  go_wp2_with (at_make; refine wpList_make_full _ rfl _ _ 23 rfl w.heap.size 5 i0 (.int .u8 0) 1 Tryd.underlying23 hi hz0 hz1 _ _ _ _ 8 rfl rfl (by omega) (by omega) ?b2 ?b3 (Nat.le_refl _) ?_)
  case b2 => rw [hz2]; omega
  case b3 => unfold maxLen; omega
  intro w0 hown0 hgrow0
  go_wp2
  go_loopw [0, 4, 8] (fun r _ i wr => ∃ k m : Nat, k ≤ 8 ∧ i = .int .i64 k ∧ r = .int .u64 (m : Nat) ∧ Hid (m = x / 256 ^ k) ∧ m < 18446744073709551616 ∧ wr.ownsRow w.heap.size 5 1 (.slice (some ⟨w.heap.size, 0, none⟩) 8 8) 8 (hiP x k) ∧ Below w.heap.size w wr)
    (fun _ _ i _ => 8 - (intOf i).toNat)
  case atStart =>
    refine ⟨0, x, Nat.zero_le _, rfl, rfl, hid (by simp), hx, ?_, (Below.refl _ _).grown hgrow0 (Nat.le_refl _) (fun k h => by cases h)⟩
    rw [toList_madeCells_one] at hown0
    rw [show hiP x 0 = List.replicate 8 (Value.int .u8 0) from rfl]
    exact hown0
  case round =>
    obtain ⟨k, m, hk, rfl, rfl, HM, hm, hown, hnx⟩ := hrel
    by_cases hlt : k < 8
    · have HS := hid (sh_next x k)
      have hcy : wr.cell? ⟨w.heap.size, 7 - k, none⟩ = some (.int .u8 0) := by
        rw [hown.cellAt (7 - k) (by omega), hiP_cell x k hlt]
      have hfr : wr.frozen? ⟨w.heap.size, 7 - k, none⟩ = false := hown.frozenAt (7 - k)
      have R := hown.stored (7 - k) (.int .u8 ((m : Int) % 256))
      rw [show (Value.int .u8 ((m : Int) % 256)) = .int .u8 (hb x (7 - k)) by rw [hb_sh x k hlt, HM.out], hiP_step x k hlt] at R
      rw [show (Value.int .u8 (hb x (7 - k))) = .int .u8 ((m : Int) % 256) by rw [hb_sh x k hlt, HM.out]] at R
      obtain ⟨j, hj⟩ : ∃ j, 7 - k = j := ⟨_, rfl⟩
      have ej : (7 : Int) - (k : Int) = (j : Int) := by omega
      rw [hj] at hcy hfr R
      have hj7 : (j : Int) < 8 := by omega
      have hj0 : (0 : Int) ≤ (j : Int) := by omega
      have R1 := hid R
      have hk0 : (0 : Int) ≤ (k : Int) := by omega
      have hk8 : (k : Int) < 8 := by omega
      clear R hown hj
      go_wp2
      go_roundw
      case rel => exact ⟨k + 1, m / 256, by omega, by go_num, by go_num, hid (by rw [HS.out, ← HM.out]), by omega, R1.out.1, hnx.setCell (Nat.le_refl _) _⟩
      case measure => simp [intOf]; omega
    · obtain rfl : k = 8 := by omega
      have hown' : wr.ownsRow w.heap.size 5 1 (.slice (some ⟨w.heap.size, 0, none⟩) 8 8) 8 (bys (hi8 x 8)) := hown
      have O := hid hown'
      clear hown hown'
      go_wp2
      go_ret
      exact ⟨_, rfl, O.out, hnx⟩
end Go.Proofs.YtoppccfgcccijaaDoor
/- The program's ItemOk. -/

namespace Go.Proofs.YtoppccfgcccijaaDoor
open Go.RowKit
set_option maxRecDepth 100000 in
set_option maxHeartbeats 1600000 in
theorem impl_ItemOk (K N : Int) (f : Nat) (ad : Option Addr) (n cap : Nat) (hf : f < 18446744073709551616) (hn : n ≤ 2097152) (w : World) :
    Calls Tryd.prog 31 #[.agg #[.int .i64 K, .int .i64 N, .float .f64 f, .slice ad n cap]] w fun e w' => e = .returned (.bool (okI K N f n)) ∧ Below w.heap.size w w' := by
  have hA : Below w.heap.size w (w.alloc (.cells #[.int .i64 K, .int .i64 N, .float .f64 f, .slice ad n cap] 28)) := (Below.refl _ _).alloc (Nat.le_refl _) _
  have HA := hid hA
  clear hA
  by_cases h1 : K < 0
  · rw [show okI K N f n = false from decide_eq_false (by omega)]
    go_enter Tryd.func31, Tryd.ntmps31
    go_wp2
    go_ret
    exact ⟨rfl, HA.out⟩
  by_cases h2 : 3 < K
  · rw [show okI K N f n = false from decide_eq_false (by omega)]
    go_enter Tryd.func31, Tryd.ntmps31
    go_wp2
    go_ret
    exact ⟨rfl, HA.out⟩
  by_cases h3 : 40 < n
  · rw [show okI K N f n = false from decide_eq_false (by omega)]
    have h3' : (40 : Int) < (n : Int) := by omega
    go_enter Tryd.func31, Tryd.ntmps31
    go_wp2
    go_ret
    exact ⟨rfl, HA.out⟩
  have h3' : ¬ (40 : Int) < (n : Int) := by omega
  by_cases h4 : K ≠ 1 ∧ N ≠ 0
  · rw [show okI K N f n = false from decide_eq_false (by omega)]
    have q1 : (K == 1) = false := by simp [h4.1]
    have q2 : (N == 0) = false := by simp [h4.2]
    go_enter Tryd.func31, Tryd.ntmps31
    go_wp2
    go_ret
    exact ⟨rfl, HA.out⟩
  by_cases h5 : K = 1
  · subst h5
    by_cases h6 : f = 0
    · subst h6
      have hz : fbits 0 = 0 := by decide
      by_cases h7 : n = 0
      · subst h7
        rw [show okI 1 N 0 0 = true from decide_eq_true (by omega)]
        go_enter Tryd.func31, Tryd.ntmps31
        go_wp2_with fail
        refine (impl_FloatBits 0 hf _).mono ?_
        rintro e w1 ⟨rfl, rfl⟩
        rw [hz]
        go_wp2_with fail
        go_ret
        exact ⟨rfl, HA.out⟩
      · rw [show okI 1 N 0 n = false from decide_eq_false (by omega)]
        have q7 : ((n : Int) == 0) = false := beq_eq_false_iff_ne.2 (by omega)
        go_enter Tryd.func31, Tryd.ntmps31
        go_wp2_with fail
        refine (impl_FloatBits 0 hf _).mono ?_
        rintro e w1 ⟨rfl, rfl⟩
        rw [hz]
        go_wp2_with fail
        go_ret
        exact ⟨rfl, HA.out⟩
    · rw [show okI 1 N f n = false from decide_eq_false (by omega)]
      have q6 : ((fbits f : Int) == 0) = false := by have := fbits_ne f h6; simpa using this
      go_enter Tryd.func31, Tryd.ntmps31
      go_wp2_with fail
      refine (impl_FloatBits f hf _).mono ?_
      rintro e w1 ⟨rfl, rfl⟩
      go_wp2_with fail
      go_ret
      exact ⟨rfl, HA.out⟩
  have h8 : N = 0 := by omega
  subst h8
  have q1 : (K == 1) = false := by simp [h5]
  by_cases h9 : K = 2
  · subst h9
    by_cases h7 : n = 0
    · subst h7
      rw [show okI 2 0 f 0 = true from decide_eq_true (by omega)]
      go_enter Tryd.func31, Tryd.ntmps31
      go_wp2
      go_ret
      exact ⟨rfl, HA.out⟩
    · rw [show okI 2 0 f n = false from decide_eq_false (by omega)]
      have q7 : ((n : Int) == 0) = false := beq_eq_false_iff_ne.2 (by omega)
      go_enter Tryd.func31, Tryd.ntmps31
      go_wp2
      go_ret
      exact ⟨rfl, HA.out⟩
  have q9 : (K == 2) = false := by simp [h9]
  by_cases h6 : f = 0
  · subst h6
    have hz : fbits 0 = 0 := by decide
    by_cases h7 : K = 3
    · subst h7
      rw [show okI 3 0 0 n = true from decide_eq_true (by omega)]
      go_enter Tryd.func31, Tryd.ntmps31
      go_wp2_with fail
      refine (impl_FloatBits 0 hf _).mono ?_
      rintro e w1 ⟨rfl, rfl⟩
      rw [hz]
      go_wp2_with fail
      go_ret
      exact ⟨rfl, HA.out⟩
    · have h10 : K = 0 := by omega
      subst h10
      by_cases h7 : n = 0
      · subst h7
        rw [show okI 0 0 0 0 = true from decide_eq_true (by omega)]
        go_enter Tryd.func31, Tryd.ntmps31
        go_wp2_with fail
        refine (impl_FloatBits 0 hf _).mono ?_
        rintro e w1 ⟨rfl, rfl⟩
        rw [hz]
        go_wp2_with fail
        go_ret
        exact ⟨rfl, HA.out⟩
      · rw [show okI 0 0 0 n = false from decide_eq_false (by omega)]
        have q7 : ((n : Int) == 0) = false := beq_eq_false_iff_ne.2 (by omega)
        go_enter Tryd.func31, Tryd.ntmps31
        go_wp2_with fail
        refine (impl_FloatBits 0 hf _).mono ?_
        rintro e w1 ⟨rfl, rfl⟩
        rw [hz]
        go_wp2_with fail
        go_ret
        exact ⟨rfl, HA.out⟩
  · rw [show okI K 0 f n = false from decide_eq_false (by omega)]
    have q6 : ((fbits f : Int) == 0) = false := by have := fbits_ne f h6; simpa using this
    go_enter Tryd.func31, Tryd.ntmps31
    go_wp2_with fail
    refine (impl_FloatBits f hf _).mono ?_
    rintro e w1 ⟨rfl, rfl⟩
    go_wp2_with fail
    go_ret
    exact ⟨rfl, HA.out⟩

end Go.Proofs.YtoppccfgcccijaaDoor
/- The program's texts of items: hexOf, floatWord, itemWord, ItemText. Conditions: texts of at most 2^21 bytes; the library's table of powers of ten is as its text lays it. -/










namespace Go.Proofs.YtoppccfgcccijaaDoor
open Go.RowKit
set_option maxRecDepth 100000

theorem own_sl18 {w : World} {base : Nat} {e : TypeId} {s : Nat} {v : Value} {n : Nat} {xs : List Value} (h : w.ownsRow base e s v n xs) : ∃ a c, v = .slice a n c := by
  rcases h.2 with ⟨rfl, rfl⟩ | ⟨g, c, cur, rfl, _⟩
  · exact ⟨none, 0, rfl⟩
  · exact ⟨_, c, rfl⟩
section
variable {P : Program} {w : World}
theorem step_append18 {ops : Array Oper} {o : Oper} {a : Act} {K : Act → World → Prop} {Q : Exit → Act → World → Prop} {E : Prop} (hgd : o.guard = none) (s x : Operand) (t : TypeId)
    (ho : o.op = .call { callee := .builtin .append, args := #[s, x], argTypes := #[t, t] })
    (base : Nat) (e : TypeId) (i : TypeInfo) (z : Value) (size bytes : Nat) (ht : P.underlying t = some (.slice e)) (hi : P.info? e = some i) (hz : i.zero = some z)
    (hsize : i.size = size) (hby : i.bytes = bytes) (hzs : z.cells.size = size) (hsz : 0 < size)
    (v : Value) (n : Nat) (xs : List Value) (hs : a.eval s = v) (hown : w.ownsRow base e size v n xs)
    (ad : Addr) (m c : Nat) (news : List Value) (hx : a.eval x = .slice (some ad) m c) (hl : news.length = m * size) (hnews : ∀ j u, news[j]? = some u → w.cell? (ad.add j) = some u) (h1 : ∀ u ∈ news, u.oneCell' = true)
    (h63 : n + m ≤ maxLen) (hbytes : (n + m) * bytes ≤ 140737488355328) (hbase : base ≤ w.heap.size)
    (h : ∀ a' cap w', w'.ownsRow base e size (.slice a' (n + m) cap) (n + m) (xs ++ news) → w.grownBy w' v.ownBlock → ((Value.slice a' (n + m) cap).ownBlock = v.ownBlock ∨ (Value.slice a' (n + m) cap).ownBlock = some w.heap.size) → K (a.put o.dst (.slice a' (n + m) cap)) w') :
    if Region.wanted o (yielded ops a.tmps) = true then Oper.wp P o a w K Q else E := by
  have hw : Region.wanted o (yielded ops a.tmps) = true := by simp [Region.wanted, hgd]
  rw [if_pos hw]
  obtain ⟨v', w', hr, h2, h3, _, h5⟩ := run_append_own_at (P := P) w base t o.type e i z size bytes ht hi hz hsize hby hzs hsz v n xs hown ad m c news hl hnews h1 h63 hbytes hbase
  obtain ⟨a', c', rfl⟩ := own_sl18 h2
  unfold Oper.wp execOp
  simp only [ho, resolve, invoke, builtin, Sem.run_bind, Sem.run_pure, Result.andThen_ok, List.map_toArray, List.map_cons, List.map_nil, hs, hx, hr]
  exact h a' c' w' h2 h3 h5
end
theorem hex_take18 (zs : List Int) {k : Nat} (h : k < zs.length) : hexB (zs.take (k + 1)) = hexB (zs.take k) ++ [hexD (zs.getD k 0 / 16), hexD (zs.getD k 0 % 16)] := by
  rw [List.take_succ_eq_append_getElem h, hexB_app]
  congr 1
  simp [hexB, List.getD, h]
theorem hex_digit18 (d : Int) (h0 : 0 ≤ d) (h1 : d < 16) (W : World) : (Instr.index 9 (.string ⟨#[48, 49, 50, 51, 52, 53, 54, 55, 56, 57, 97, 98, 99, 100, 101, 102]⟩) (.int .u8 d)).run Tryd.prog W = .ok (.int .u8 (hexD d)) W := by
  rw [run_index_string (P := Tryd.prog) W 9 _ .u8 d Tryd.underlying9]
  have : d = 0 ∨ d = 1 ∨ d = 2 ∨ d = 3 ∨ d = 4 ∨ d = 5 ∨ d = 6 ∨ d = 7 ∨ d = 8 ∨ d = 9 ∨ d = 10 ∨ d = 11 ∨ d = 12 ∨ d = 13 ∨ d = 14 ∨ d = 15 := by omega
  rcases this with rfl | rfl | rfl | rfl | rfl | rfl | rfl | rfl | rfl | rfl | rfl | rfl | rfl | rfl | rfl | rfl <;> rfl
theorem hex_exec18 {P : Program} {o : Oper} {a : Act} {W : World} {x i : Operand} {u v z : Value} (ho : o.op = .index 9 x i) (hx : a.eval x = u ∧ a.eval i = v) (h : (Instr.index 9 u v).run P W = .ok z W) : (execOp a.eval o).run P W = .ok (.value z) W := by
  unfold execOp
  simp only [ho, hx.1, hx.2, Sem.run_bind, Sem.run_pure, Result.andThen_ok, h]
set_option maxHeartbeats 3200000 in
theorem impl_hexOf {ad : Option Addr} {n : Nat} (cap : Nat) {zs : List Int} {w : World} (h : Reads w ad n zs) (hn : n ≤ 2097152) :
    Calls Tryd.prog 53 #[.slice ad n cap] w fun e w' => e = .returned (.string (str (hexB zs))) ∧ Below w.heap.size w w' := by
  obtain ⟨i0, hi, hz0, hz1, hz2⟩ := info_parts Tryd.info5
  have HR := hid h
  have HBd := hid h.bd
  have hl := h.len
  clear h
  go_enter Tryd.func53, Tryd.ntmps53
  go_wp2_with fail
  go_loopw [3, 8] (fun v s wr => ∃ k : Nat, k ≤ n ∧ s = .int .i64 (k : Int) ∧ Hid (wr.ownsRow w.heap.size 5 1 v (2 * k) (bys (hexB (zs.take k)))) ∧ Hid (Below w.heap.size w wr)) (fun _ s _ => n - (intOf s).toNat)
  case atStart => exact ⟨0, Nat.zero_le _, rfl, hid (World.ownsRow_nil _ _ _ _), hid (Below.refl _ _)⟩
  case round =>
    obtain ⟨k, hk, rfl, HO, HB⟩ := hrel
    have hsz := HB.out.size
    by_cases hlt : k < n
    · have hlt' : (k : Int) < (n : Int) := by omega
      have hk0 : (0 : Int) ≤ (k : Int) := by omega
      have hrd := HR.out.below HB.out (Nat.le_refl _)
      obtain ⟨b, off, rfl, hcell⟩ : ∃ b off, ad = some ⟨b, off, none⟩ ∧ ∀ i, i < n → wr.cell? ⟨b, off + i, none⟩ = some (.int .u8 (zs.getD i 0)) := by
        rcases hrd.cells with h0 | h1
        · omega
        · exact h1
      have hz := HBd.out k
      have HT := hid (hex_take18 zs (k := k) (by omega))
      have hc := hcell k hlt
      obtain ⟨z, hzk⟩ : ∃ z, zs.getD k 0 = z := ⟨_, rfl⟩
      rw [hzk] at hz HT hc
      obtain ⟨hz0', hz1'⟩ := hz
      clear hcell hrd hzk
      have x1 := hid (hex_digit18 (z / 16) (by omega) (by omega))
      have x2 := hid (hex_digit18 (z % 16) (by omega) (by omega))
      have E1 := hid (show IntKind.u8.wrap (z.tdiv 16) = z / 16 by rw [Int.tdiv_eq_ediv_of_nonneg (by omega), IntKind.wrap_u8]; omega)
      have E3 := hid (show z.tmod 16 = z % 16 from Int.tmod_eq_emod_of_nonneg (by omega))
      have E2 := hid (show IntKind.u8.wrap (z.tmod 16) = z % 16 by rw [Int.tmod_eq_emod_of_nonneg (by omega), IntKind.wrap_u8]; omega)
      obtain ⟨ao, co, rfl⟩ := own_sl18 HO.out
      go_wp2_with fail
      have HBd2 := hid (HB.out.trans (((Still.drew wr).below wr.heap.size).mono hsz))
      have HOd := hid (show wr.drew.ownsRow w.heap.size 5 1 (.slice ao (2 * k) co) (2 * k) (bys (hexB (zs.take k))) from HO.out.drew)
      refine region_K 99 (fun _ => True) (by kernel_rfl) trivial (fun hHeld => ?_)
      generalize wr.drew = vd at *
      refine anyK_take2 (i := 0) (v := ?v0_1) rfl (by kernel_rfl) (by kernel_rfl) (by kernel_rfl) (by rfl) (fun _ _ _ h => h) (by rfl) hHeld ?hy0_1 (some 12) (by rfl) ?rest0_1
      case hy0_1 => (intro W hSw; obtain _ := hSw; go_simp; (try with_reducible rfl))
      (try simp only [Act.put]); (try simp only [List.setIfInBounds_toArray]); (try simp only [List.set_cons_succ]); (try simp only [List.set_cons_zero])
      refine anyK_take2 (i := 1) (v := ?v1_2) rfl (by kernel_rfl) (by kernel_rfl) (by kernel_rfl) (by rfl) (fun _ _ _ h => h) (by rfl) hHeld ?hy1_2 (some 13) (by rfl) ?rest1_2
      case hy1_2 => (intro W hSw; obtain _ := hSw; go_simp; (try with_reducible rfl))
      (try simp only [Act.put]); (try simp only [List.setIfInBounds_toArray]); (try simp only [List.set_cons_succ]); (try simp only [List.set_cons_zero])
      refine anyK_take2 (i := 2) (v := .int .u8 (z / 16)) rfl (by kernel_rfl) (by kernel_rfl) (by kernel_rfl) (by rfl) (fun _ _ _ h => h) (by rfl) hHeld ?hy2_3 (some 14) (by rfl) ?rest2_3
      case hy2_3 => (intro W hSw; obtain _ := hSw; go_simp; (try rw [E1.out]))
      (try simp only [Act.put]); (try simp only [List.setIfInBounds_toArray]); (try simp only [List.set_cons_succ]); (try simp only [List.set_cons_zero])
      refine anyK_take2 (i := 3) (v := .int .u8 (hexD (z / 16))) rfl (by kernel_rfl) (by kernel_rfl) (by kernel_rfl) (by rfl) (fun _ _ _ h => h) (by rfl) hHeld ?hy3_4 (some 15) (by rfl) ?rest3_4
      case hy3_4 => (intro W hSw; exact hex_exec18 (by rfl) ⟨by rfl, by rfl⟩ (x1.out W))
      (try simp only [Act.put]); (try simp only [List.setIfInBounds_toArray]); (try simp only [List.set_cons_succ]); (try simp only [List.set_cons_zero])
      refine anyK_take2 (i := 4) (v := ?v4_5) rfl (by kernel_rfl) (by kernel_rfl) (by kernel_rfl) (by rfl) (fun _ _ _ h => h) (by rfl) hHeld ?hy4_5 (some 16) (by rfl) ?rest4_5
      case hy4_5 => (intro W hSw; obtain _ := hSw; go_simp; (try with_reducible rfl))
      (try simp only [Act.put]); (try simp only [List.setIfInBounds_toArray]); (try simp only [List.set_cons_succ]); (try simp only [List.set_cons_zero])
      refine anyK_take2 (i := 5) (v := .int .u8 (z % 16)) rfl (by kernel_rfl) (by kernel_rfl) (by kernel_rfl) (by rfl) (fun _ _ _ h => h) (by rfl) hHeld ?hy5_6 (some 17) (by rfl) ?rest5_6
      case hy5_6 => (intro W hSw; obtain _ := hSw; go_simp; (first | rw [E2.out] | rw [E3.out] | skip))
      (try simp only [Act.put]); (try simp only [List.setIfInBounds_toArray]); (try simp only [List.set_cons_succ]); (try simp only [List.set_cons_zero])
      refine anyK_take2 (i := 6) (v := .int .u8 (hexD (z % 16))) rfl (by kernel_rfl) (by kernel_rfl) (by kernel_rfl) (by rfl) (fun _ _ _ h => h) (by rfl) hHeld ?hy6_7 (some 18) (by rfl) ?rest6_7
      case hy6_7 => (intro W hSw; exact hex_exec18 (by rfl) ⟨by rfl, by rfl⟩ (x2.out W))
      (try simp only [Act.put]); (try simp only [List.setIfInBounds_toArray]); (try simp only [List.set_cons_succ]); (try simp only [List.set_cons_zero])
      refine anyK_step (i := 7) (by kernel_rfl) rfl (fun KP hK => ?_)
      go_simp
      have HBA := hid (HBd2.out.trans ((Below.alloc1 vd (.cells #[.int .u8 (hexD (z / 16)), .int .u8 (hexD (z % 16))] 5)).mono HBd2.out.size))
      have HN := hid (heap_alloc_new vd (.cells #[.int .u8 (hexD (z / 16)), .int .u8 (hexD (z % 16))] 5))
      have HOa := hid (HOd.out.alloc (.cells #[.int .u8 (hexD (z / 16)), .int .u8 (hexD (z % 16))] 5))
      clear hHeld HOd
      refine hK.out _ _ trivial (fun hHeld => ?_)
      clear hK KP
      (try simp only [Act.put]); (try simp only [List.setIfInBounds_toArray]); (try simp only [List.set_cons_succ]); (try simp only [List.set_cons_zero])
      have hsa := HBA.out.size
      refine anyK_step (i := 8) (by kernel_rfl) rfl (fun KP hK => ?_)
      refine step_append18 rfl _ _ 23 rfl w.heap.size 5 i0 (.int .u8 0) 1 1 Tryd.underlying23 hi hz0 hz1 hz2 rfl (by decide) _ (2 * k) _ rfl HOa.out ⟨vd.heap.size, 0, none⟩ 2 2 [.int .u8 (hexD (z / 16)), .int .u8 (hexD (z % 16))] rfl rfl (World.news_of_block HN.out) ?g3 (by unfold maxLen; omega) (by omega) hsa ?_
      case g3 => intro u hu; simp only [List.mem_cons, List.not_mem_nil, or_false] at hu; rcases hu with rfl | rfl <;> rfl
      intro a8 c8 w8 o8 g8 _
      have HB8 := hid (HBA.out.grown g8 hsa (fun j hj => (HOa.out.lt j hj).1))
      have HO8 := hid (show w8.ownsRow w.heap.size 5 1 (.slice a8 (2 * k + 2) c8) (2 * (k + 1)) (bys (hexB (zs.take (k + 1)))) by
        rw [HT.out, bys_append]
        exact o8)
      clear o8 g8 HOa HBA hHeld
      refine hK.out _ _ trivial (fun hHeld => ?_)
      clear hK KP
      (try simp only [Act.put]); (try simp only [List.setIfInBounds_toArray]); (try simp only [List.set_cons_succ]); (try simp only [List.set_cons_zero])
      refine anyK_take2 (i := 9) (v := ?v9_8) rfl (by kernel_rfl) (by kernel_rfl) (by kernel_rfl) (by rfl) (fun _ _ _ h => h) (by rfl) hHeld ?hy9_8 (some 3) (by rfl) ?rest9_8
      case hy9_8 => (intro W hSw; obtain _ := hSw; go_simp; (try with_reducible rfl))
      (try simp only [Act.put]); (try simp only [List.setIfInBounds_toArray]); (try simp only [List.set_cons_succ]); (try simp only [List.set_cons_zero])
      refine anyK_done (by kernel_rfl) ?_ _
      go_wp2_with fail
      go_roundw
      case rel => exact ⟨k + 1, by omega, by go_num, HO8, HB8⟩
      case measure => simp [intOf]; omega
    · have hlt' : ¬ (k : Int) < (n : Int) := by omega
      obtain rfl : k = n := by omega
      obtain ⟨ao, co, rfl⟩ := own_sl18 HO.out
      have ho := HO.out
      rw [List.take_of_length_le (by omega)] at ho
      obtain ⟨ad2, cap2, e2, r2, _⟩ := Reads.own ho (fun i => hexB_byte HBd.out i)
      obtain ⟨rfl, _, rfl⟩ := Value.slice.inj e2
      have hcv := r2.str co 23 Tryd.underlying23 Tryd.underlying5 Tryd.underlying9
      go_wp2_with fail
      go_ret
      exact ⟨rfl, HB.out⟩
theorem impl_floatWord (f : Nat) (hf : f < 18446744073709551616) (w : World) :
    Calls Tryd.prog 48 #[.float .f64 f] w fun e w' => e = .returned (.string (str (hexB (hi8 (fbits f) 8)))) ∧ Below w.heap.size w w' := by
  go_enter Tryd.func48, Tryd.ntmps48
  go_wp2_with (first
    | (go_at_call 52; refine (impl_FloatBits f hf _).mono ?_; rintro e w1 ⟨rfl, e1'⟩; subst w1)
    | (go_at_call 61; refine (impl_putHigh (fbits f) (fbits_lt f hf) _).mono ?_; rintro e w3 ⟨v3, rfl, o3, b3⟩; obtain ⟨a3, c3, rfl, r3, _⟩ := Reads.own o3 (fun i => hi8_bd (fbits f) 8 i); have HB3 := hid b3; have HR3 := hid r3; clear o3 b3 r3)
    | (go_at_call 53; refine (impl_hexOf c3 HR3.out (by omega)).mono ?_; rintro e w4 ⟨rfl, b4⟩; have HB4 := hid (HB3.out.trans (b4.mono HB3.out.size)); clear b4))
  go_ret
  exact ⟨rfl, HB4.out⟩
theorem str_cons18 (c : Int) (L : List Int) : (⟨#[UInt8.ofNat c.toNat]⟩ : ByteArray) ++ str L = str (c :: L) := by
  apply ByteArray.ext
  simp [str]
end Go.Proofs.YtoppccfgcccijaaDoor
