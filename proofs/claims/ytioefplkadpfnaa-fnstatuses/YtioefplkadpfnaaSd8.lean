/- Statuses as bytes: two bits each; the array in memory; the contract of the program's put and StatusBytes. Conditions: lists of at most 2^40 numbers. -/
import Derived.Test.YtioefplkadpfnaaSb8
import Derived.Test.YtioefplkadpfnaaJt
import Derived.Test.YtioefplkadpfnaaRk3
import Derived.Deep.RegionHeld3
import Derived.Laws.BitsAllLaws
namespace Go.Proofs.Ytioefplkadpfnaa
open Go.RowKit
set_option maxRecDepth 100000

theorem stOf_bd (l : List Int) (x : Int) : 0 ≤ stOf l x ∧ stOf l x ≤ 2 := by unfold stOf; split <;> omega
theorem stOf_zero (l : List Int) : stOf l ((0 : Nat) : Int) = 0 := by unfold stOf; rw [if_neg (by omega)]
/-- The number at two bits of byte j, when i places have been laid. -/
def dg (l : List Int) (i j q : Nat) : Int := if 4 * j + q < i then stOf l ((4 * j + q : Nat) : Int) else 0
def pb (l : List Int) (i j : Nat) : Int := dg l i j 0 + dg l i j 1 * 4 + dg l i j 2 * 16 + dg l i j 3 * 64
def pbs (l : List Int) (i m : Nat) : List Int := (List.range m).map (pb l i)
theorem dg_bd (l : List Int) (i j q : Nat) : 0 ≤ dg l i j q ∧ dg l i j q ≤ 2 := by
  unfold dg; split
  · exact stOf_bd _ _
  · omega
theorem pb_bd (l : List Int) (i j : Nat) : 0 ≤ pb l i j ∧ pb l i j ≤ 255 := by
  have := dg_bd l i j 0; have := dg_bd l i j 1; have := dg_bd l i j 2; have := dg_bd l i j 3
  unfold pb; omega
theorem pbs_length (l : List Int) (i m : Nat) : (pbs l i m).length = m := by simp [pbs]
theorem pbs_at (l : List Int) (i m j : Nat) (h : j < m) : (pbs l i m).getD j 0 = pb l i j := by simp [pbs, h]
theorem pbs_bd (l : List Int) (i m : Nat) : ∀ j, 0 ≤ (pbs l i m).getD j 0 ∧ (pbs l i m).getD j 0 ≤ 255 := by
  intro j
  by_cases h : j < m
  · rw [pbs_at l i m j h]; exact pb_bd _ _ _
  · rw [List.getD_eq_getElem?_getD, List.getElem?_eq_none (by rw [pbs_length]; omega)]; simp
theorem dg_other (l : List Int) (i j q : Nat) (h : 4 * j + q ≠ i) : dg l (i + 1) j q = dg l i j q := by
  unfold dg
  by_cases h1 : 4 * j + q < i
  · rw [if_pos h1, if_pos (by omega)]
  · rw [if_neg h1, if_neg (by omega)]
theorem dg_none (l : List Int) (i j q : Nat) (h : i ≤ 4 * j + q) : dg l i j q = 0 := by unfold dg; rw [if_neg (by omega)]
theorem dg_new (l : List Int) (i j q : Nat) (h : 4 * j + q = i) : dg l (i + 1) j q = stOf l (i : Int) := by unfold dg; rw [if_pos (by omega), h]
theorem pb_other (l : List Int) (i j : Nat) (h : j ≠ i / 4) : pb l (i + 1) j = pb l i j := by
  unfold pb
  rw [dg_other l i j 0 (by omega), dg_other l i j 1 (by omega), dg_other l i j 2 (by omega), dg_other l i j 3 (by omega)]
theorem pb_fresh (l : List Int) (i : Nat) (h : i % 4 = 0) : pb l i (i / 4) = 0 := by
  unfold pb
  rw [dg_none l i _ 0 (by omega), dg_none l i _ 1 (by omega), dg_none l i _ 2 (by omega), dg_none l i _ 3 (by omega)]; rfl
theorem pb_none (l : List Int) (j : Nat) : pb l 0 j = 0 := by
  unfold pb
  rw [dg_none l 0 _ 0 (by omega), dg_none l 0 _ 1 (by omega), dg_none l 0 _ 2 (by omega), dg_none l 0 _ 3 (by omega)]; rfl
theorem or_add (a s e : Nat) (h : a < 2 ^ e) (ha : a < 256) (hs : s * 2 ^ e < 256) : bits .or .u8 (a : Int) ((s * 2 ^ e : Nat) : Int) = ((a + s * 2 ^ e : Nat) : Int) := by
  rw [u8_or_nat _ _ ha hs, Nat.or_comm, ← Nat.shiftLeft_eq, ← Nat.shiftLeft_add_eq_or_of_lt h, Nat.add_comm]
theorem pb_or (l : List Int) (i q E : Nat) (hq : i % 4 = q) (hE : (q = 0 ∧ E = 1) ∨ (q = 1 ∧ E = 4) ∨ (q = 2 ∧ E = 16) ∨ (q = 3 ∧ E = 64)) :
    bits .or .u8 (pb l i (i / 4)) (stOf l (i : Int) * (E : Int)) = pb l (i + 1) (i / 4) := by
  have h0 := dg_bd l i (i / 4) 0; have h1 := dg_bd l i (i / 4) 1; have h2 := dg_bd l i (i / 4) 2; have h3 := dg_bd l i (i / 4) 3
  obtain ⟨s, hs⟩ : ∃ s : Nat, stOf l (i : Int) = s := ⟨(stOf l (i : Int)).toNat, by have := stOf_bd l (i : Int); omega⟩
  have hs2 : s ≤ 2 := by have := stOf_bd l (i : Int); omega
  obtain ⟨a, ha⟩ : ∃ a : Nat, pb l i (i / 4) = a := ⟨(pb l i (i / 4)).toNat, by have := pb_bd l i (i / 4); omega⟩
  rw [hs, ha]
  rcases hE with ⟨rfl, rfl⟩ | ⟨rfl, rfl⟩ | ⟨rfl, rfl⟩ | ⟨rfl, rfl⟩
  · have hp : pb l i (i / 4) = 0 := pb_fresh l i hq
    have := or_add a s 0 (by omega) (by omega) (by omega)
    rw [show (s : Int) * ((1 : Nat) : Int) = ((s * 2 ^ 0 : Nat) : Int) by omega, this]
    unfold pb
    rw [dg_new l i _ 0 (by omega), dg_none l (i + 1) _ 1 (by omega), dg_none l (i + 1) _ 2 (by omega), dg_none l (i + 1) _ 3 (by omega), hs]
    omega
  · have hp : pb l i (i / 4) = dg l i (i / 4) 0 := by
      unfold pb; rw [dg_none l i _ 1 (by omega), dg_none l i _ 2 (by omega), dg_none l i _ 3 (by omega)]; omega
    have := or_add a s 2 (by omega) (by omega) (by omega)
    rw [show (s : Int) * ((4 : Nat) : Int) = ((s * 2 ^ 2 : Nat) : Int) by omega, this]
    unfold pb
    rw [dg_new l i _ 1 (by omega), dg_none l (i + 1) _ 2 (by omega), dg_none l (i + 1) _ 3 (by omega), dg_other l i _ 0 (by omega), hs]
    omega
  · have hp : pb l i (i / 4) = dg l i (i / 4) 0 + dg l i (i / 4) 1 * 4 := by
      unfold pb; rw [dg_none l i _ 2 (by omega), dg_none l i _ 3 (by omega)]; omega
    have := or_add a s 4 (by omega) (by omega) (by omega)
    rw [show (s : Int) * ((16 : Nat) : Int) = ((s * 2 ^ 4 : Nat) : Int) by omega, this]
    unfold pb
    rw [dg_new l i _ 2 (by omega), dg_none l (i + 1) _ 3 (by omega), dg_other l i _ 0 (by omega), dg_other l i _ 1 (by omega), hs]
    omega
  · have hp : pb l i (i / 4) = dg l i (i / 4) 0 + dg l i (i / 4) 1 * 4 + dg l i (i / 4) 2 * 16 := by
      unfold pb; rw [dg_none l i _ 3 (by omega)]; omega
    have := or_add a s 6 (by omega) (by omega) (by omega)
    rw [show (s : Int) * ((64 : Nat) : Int) = ((s * 2 ^ 6 : Nat) : Int) by omega, this]
    unfold pb
    rw [dg_new l i _ 3 (by omega), dg_other l i _ 0 (by omega), dg_other l i _ 1 (by omega), dg_other l i _ 2 (by omega), hs]
    omega
theorem pbs_set (l : List Int) (i m : Nat) : (pbs l i m).set (i / 4) (pb l (i + 1) (i / 4)) = pbs l (i + 1) m := by
  apply List.ext_getElem
  · simp [pbs]
  · intro k h1 h2
    rw [List.getElem_set]
    have hk : k < m := by simpa [pbs] using h2
    by_cases hj : i / 4 = k
    · subst hj; simp [pbs]
    · rw [if_neg hj]; simp only [pbs, List.getElem_map, List.getElem_range]; exact (pb_other l i k (fun e => hj e.symm)).symm
theorem pbs_start (l : List Int) (m : Nat) : pbs l 1 m = List.replicate m 0 := by
  apply List.ext_getElem
  · simp [pbs]
  · intro k h1 h2
    simp only [pbs, List.getElem_map, List.getElem_range, List.getElem_replicate]
    by_cases hk : k = 0
    · subst hk
      have h := pb_or l 0 0 1 rfl (.inl ⟨rfl, rfl⟩)
      unfold pb
      rw [dg_new l 0 0 0 rfl, dg_none l 1 _ 1 (by omega), dg_none l 1 _ 2 (by omega), dg_none l 1 _ 3 (by omega), stOf_zero]; rfl
    · rw [pb_other l 0 k (by omega), pb_none]
theorem pbs_take (l : List Int) (i m k : Nat) (h : k ≤ m) : (pbs l i m).take k = pbs l i k := by
  unfold pbs; rw [← List.map_take, List.take_range, Nat.min_eq_left h]
theorem pbs_snoc (l : List Int) (i : Nat) (h : i % 4 = 0) : pbs l i (i / 4 + 1) = pbs l i (i / 4) ++ [0] := by
  unfold pbs; rw [List.range_succ, List.map_append]; simp [pb_fresh l i h]
def stB (l : List Int) : List Int := if l.length ≤ 401 then pbs l l.length ((l.length + 3) / 4) else []
theorem stB_small (l : List Int) : (stB l).length ≤ 1500000 ∧ ∀ i, 0 ≤ (stB l).getD i 0 ∧ (stB l).getD i 0 ≤ 255 := by
  unfold stB
  split
  · exact ⟨by rw [pbs_length]; omega, pbs_bd _ _ _⟩
  · simp

/-- The array of statuses in its block. -/
structure Arr (w : World) (p : Nat) (zs : List Int) : Prop where
  row : w.heap[p]? = some (.cells (bys zs).toArray 86 (0, 0))
  len : zs.length = 101
  bd : ∀ i, 0 ≤ zs.getD i 0 ∧ zs.getD i 0 ≤ 255
theorem Arr.cell {w : World} {p : Nat} {zs : List Int} (h : Arr w p zs) {j : Nat} (hj : j < 101) : w.cell? ⟨p, j, none⟩ = some (.int .u8 (zs.getD j 0)) := by
  rw [cell_of_row w _ _ _ _ _ h.row]
  have := h.len
  simp only [List.getElem?_toArray, getD_bys]
  rw [List.getElem?_eq_getElem (by omega), List.getD_eq_getElem?_getD, List.getElem?_eq_getElem (by omega)]; rfl
theorem Arr.frozen {w : World} {p : Nat} {zs : List Int} (h : Arr w p zs) (j : Nat) : w.frozen? ⟨p, j, none⟩ = false := frozen_of_row w _ _ _ _ h.row
theorem Arr.set {w : World} {p : Nat} {zs : List Int} (h : Arr w p zs) {j : Nat} (hj : j < 101) {c : Int} (hc : 0 ≤ c ∧ c ≤ 255) : Arr ((w.setCell ⟨p, j, none⟩ (.int .u8 c)).drew) p (zs.set j c) := by
  refine ⟨?_, by rw [List.length_set, h.len], fun i => ?_⟩
  · rw [(Still.drew _).heap, heap_setCell_same w p j _ _ _ h.row]
    simp [bys, List.map_set]
  · rw [set_at _ _ _ _ (by rw [h.len]; exact hj)]
    split
    · exact hc
    · exact h.bd i
theorem Arr.below {w w' : World} {p : Nat} {zs : List Int} (h : Arr w p zs) {B : Nat} (hb : Below B w w') (hB : w.heap.size ≤ B) : Arr w' p zs :=
  ⟨(hb.block p (by have := (Array.getElem?_eq_some_iff.1 h.row).1; omega)).trans h.row, h.len, h.bd⟩
theorem Arr.lt {w : World} {p : Nat} {zs : List Int} (h : Arr w p zs) : p < w.heap.size := (Array.getElem?_eq_some_iff.1 h.row).1

theorem int_ret {a b : Int} (h : a = b) : Ending.returned (Value.int .i64 a) = Ending.returned (.int .i64 b) := by rw [h]
theorem grown_set8 (w : World) (g j : Nat) (v : Value) : w.grownBy (w.setCell ⟨g, j, none⟩ v) (some g) :=
  ⟨rfl, rfl, rfl, by simp [World.setCell], fun k _ hk => heap_setCell_other w ⟨g, j, none⟩ k v (fun e => hk (by simp [e]))⟩
theorem grown_st8 {w w' : World} {row : Option Nat} (h : Still w w') : w.grownBy w' row := ⟨h.os, h.tape, h.output, by rw [h.heap]; exact Nat.le_refl _, fun k _ _ => by rw [h.heap]⟩
theorem impl_statusShift (x : Nat) (hx : x ≤ 1000) (w : World) : Calls Try.prog 89 #[.int .i64 x] w fun e w' => e = .returned (.int .i64 ((x % 4 * 2 : Nat) : Int)) ∧ w' = w := by
  go_enter Try.func89, Try.ntmps89
  go_wp2
  go_ret
  exact ⟨rfl, rfl⟩
theorem impl_statusSize (x : Nat) (hx : x ≤ 1000) (w : World) : Calls Try.prog 70 #[.int .i64 x] w fun e w' => e = .returned (.int .i64 (((x + 3) / 4 : Nat) : Int)) ∧ w' = w := by
  have q : ((x : Int) + 4 - 1) / 4 = (((x + 3) / 4 : Nat) : Int) := by omega
  generalize (x + 3) / 4 = y at q
  go_enter Try.func70, Try.ntmps70
  go_wp2
  go_ret
  exact ⟨int_ret q, rfl⟩

set_option maxHeartbeats 3200000 in
theorem put_0 {w : World} {p j x : Nat} {b nb : Int} (hx : x ≤ 400) (hj : (x : Int) / 4 = (j : Int)) (hm : x % 4 * 2 = 0) (hc : w.cell? ⟨p, j, none⟩ = some (.int .u8 b)) (hf : w.frozen? ⟨p, j, none⟩ = false) (s : Int) (hs0 : 0 ≤ s) (hs2 : s ≤ 2) (hor : bits .or .u8 b (s) = nb) :
    Calls Try.prog 69 #[.pointer (some ⟨p, 0, none⟩), .int .i64 x, .int .i64 s] w fun e w' => e = .returned (.tuple #[]) ∧ w' = (w.setCell ⟨p, j, none⟩ (.int .u8 nb)).drew := by
  have hw : IntKind.i64.wrap (j : Int) = (j : Int) := by simp [IntKind.wrap, IntKind.bits, IntKind.signed]; omega
  have hw1 : IntKind.i64.wrap (s) = s := by simp [IntKind.wrap, IntKind.bits, IntKind.signed]; omega
  have hw2 : IntKind.u8.wrap (s) = s := by simp [IntKind.wrap, IntKind.bits, IntKind.signed]; omega
  have hj0 : (0 : Int) ≤ (j : Int) := by omega
  have hj2 : (j : Int) < 101 := by omega
  have hf2 : w.drew.frozen? ⟨p, j, none⟩ = false := ((Still.drew w).frozen _).trans hf
  go_enter Try.func69, Try.ntmps69
  refine region_K 14 (fun W => W.cell? ⟨p, j, none⟩ = some (.int .u8 b)) (by kernel_rfl) ?_ (fun hHeld => ?_)
  · exact ((Still.drew w).cell _).trans hc
  refine anyK_take (i := 0) (v := ?v165) rfl (by kernel_rfl) (by kernel_rfl) (by kernel_rfl) (by kernel_rfl) (fun _ _ _ h => h) (by rfl) hHeld ?hy165 (some 6) (by rfl) ?rest165
  case hy165 => (intro W hSw; (try dsimp only at hSw); go_simp; (try with_reducible rfl))
  try simp only [Act.put]
  try simp only [List.setIfInBounds_toArray]
  try simp only [List.set_cons_succ, List.set_cons_zero]
  refine anyK_take (i := 1) (v := ?v166) rfl (by kernel_rfl) (by kernel_rfl) (by kernel_rfl) (by kernel_rfl) (fun _ _ _ h => h) (by rfl) hHeld ?hy166 (some 7) (by rfl) ?rest166
  case hy166 => (intro W hSw; (try dsimp only at hSw); go_simp; (try with_reducible rfl))
  try simp only [Act.put]
  try simp only [List.setIfInBounds_toArray]
  try simp only [List.set_cons_succ, List.set_cons_zero]
  refine anyK_take (i := 2) (v := ?v167) rfl (by kernel_rfl) (by kernel_rfl) (by kernel_rfl) (by kernel_rfl) (fun _ _ _ h => h) (by rfl) hHeld ?hy167 (some 8) (by rfl) ?rest167
  case hy167 => (intro W hSw; (try dsimp only at hSw); go_simp; (try with_reducible rfl))
  try simp only [Act.put]
  try simp only [List.setIfInBounds_toArray]
  try simp only [List.set_cons_succ, List.set_cons_zero]
  refine anyK_take (i := 3) (v := ?v168) rfl (by kernel_rfl) (by kernel_rfl) (by kernel_rfl) (by kernel_rfl) (fun _ _ _ h => h) (by rfl) hHeld ?hy168 (some 9) (by rfl) ?rest168
  case hy168 => (intro W hSw; (try dsimp only at hSw); go_simp; (try with_reducible rfl))
  try simp only [Act.put]
  try simp only [List.setIfInBounds_toArray]
  try simp only [List.set_cons_succ, List.set_cons_zero]
  refine anyK_take (i := 4) (v := ?v169) rfl (by kernel_rfl) (by kernel_rfl) (by kernel_rfl) (by kernel_rfl) (fun _ _ _ h => h) (by rfl) hHeld ?hy169 (some 10) (by rfl) ?rest169
  case hy169 => (intro W hSw; (try dsimp only at hSw); go_simp; (try with_reducible rfl))
  try simp only [Act.put]
  try simp only [List.setIfInBounds_toArray]
  try simp only [List.set_cons_succ, List.set_cons_zero]
  refine anyK_take (i := 5) (v := ?v170) rfl (by kernel_rfl) (by kernel_rfl) (by kernel_rfl) (by kernel_rfl) (fun _ _ _ h => h) (by rfl) hHeld ?hy170 (some 11) (by rfl) ?rest170
  case hy170 => (intro W hSw; (try dsimp only at hSw); go_simp; (try with_reducible rfl))
  try simp only [Act.put]
  try simp only [List.setIfInBounds_toArray]
  try simp only [List.set_cons_succ, List.set_cons_zero]
  refine anyK_take (i := 6) (v := ?v171) rfl (by kernel_rfl) (by kernel_rfl) (by kernel_rfl) (by kernel_rfl) (fun _ _ _ h => h) (by rfl) hHeld ?hy171 (some 12) (by rfl) ?rest171
  case hy171 => (intro W hSw; (try dsimp only at hSw); go_simp; (try with_reducible rfl))
  try simp only [Act.put]
  try simp only [List.setIfInBounds_toArray]
  try simp only [List.set_cons_succ, List.set_cons_zero]
  refine anyK_take (i := 7) (v := ?v172) rfl (by kernel_rfl) (by kernel_rfl) (by kernel_rfl) (by kernel_rfl) (fun _ _ _ h => h) (by rfl) hHeld ?hy172 (some 13) (by rfl) ?rest172
  case hy172 => (intro W hSw; (try dsimp only at hSw); go_simp; (try with_reducible rfl))
  try simp only [Act.put]
  try simp only [List.setIfInBounds_toArray]
  try simp only [List.set_cons_succ, List.set_cons_zero]
  refine anyK_two (i := 8) (j := 12) (by kernel_rfl) rfl rfl (fun KP hK => ?_) (fun KP hK => ?_)
  · go_simp
    refine (impl_statusShift x (by omega) _).mono ?_
    rintro e w1 ⟨rfl, e1⟩
    subst w1
    rw [hm]
    go_wp2_with fail
    refine hK.out _ _ ?_ (fun hH2 => ?_)
    · exact hHeld
    clear hK KP hHeld
    have hHeld := hH2
    clear hH2
    try simp only [Act.put]
    try simp only [List.setIfInBounds_toArray]
    try simp only [List.set_cons_succ, List.set_cons_zero]
    refine anyK_take (i := 9) (v := ?v173) rfl (by kernel_rfl) (by kernel_rfl) (by kernel_rfl) (by kernel_rfl) (fun _ _ _ h => h) (by rfl) hHeld ?hy173 (some 15) (by rfl) ?rest173
    case hy173 => (intro W hSw; (try dsimp only at hSw); go_simp; (try with_reducible rfl))
    try simp only [Act.put]
    try simp only [List.setIfInBounds_toArray]
    try simp only [List.set_cons_succ, List.set_cons_zero]
    refine anyK_take (i := 10) (v := ?v174) rfl (by kernel_rfl) (by kernel_rfl) (by kernel_rfl) (by kernel_rfl) (fun _ _ _ h => h) (by rfl) hHeld ?hy174 (some 16) (by rfl) ?rest174
    case hy174 => (intro W hSw; (try dsimp only at hSw); go_simp; (try with_reducible rfl))
    try simp only [Act.put]
    try simp only [List.setIfInBounds_toArray]
    try simp only [List.set_cons_succ, List.set_cons_zero]
    refine anyK_take (i := 11) (v := ?v175) rfl (by kernel_rfl) (by kernel_rfl) (by kernel_rfl) (by kernel_rfl) (fun _ _ _ h => h) (by rfl) hHeld ?hy175 (some 17) (by rfl) ?rest175
    case hy175 => (intro W hSw; (try dsimp only at hSw); go_simp; (try with_reducible rfl))
    try simp only [Act.put]
    try simp only [List.setIfInBounds_toArray]
    try simp only [List.set_cons_succ, List.set_cons_zero]
    refine anyK_step (i := 12) (by kernel_rfl) rfl (fun KP hK => ?_)
    go_simp
    refine hK.out _ _ ?_ (fun hH2 => ?_)
    · exact hHeld
    clear hK KP hHeld
    have hHeld := hH2
    clear hH2
    try simp only [Act.put]
    try simp only [List.setIfInBounds_toArray]
    try simp only [List.set_cons_succ, List.set_cons_zero]
    refine anyK_take (i := 13) (v := ?v176) rfl (by kernel_rfl) (by kernel_rfl) (by kernel_rfl) (by kernel_rfl) (fun _ _ _ h => h) (by rfl) hHeld ?hy176 (some 19) (by rfl) ?rest176
    case hy176 => (intro W hSw; (try dsimp only at hSw); go_simp; (try with_reducible rfl))
    try simp only [Act.put]
    try simp only [List.setIfInBounds_toArray]
    try simp only [List.set_cons_succ, List.set_cons_zero]
    refine anyK_last (by kernel_rfl) rfl (fun KP hK => ?_)
    go_simp
    refine hK.out _ _ ?_
    clear hK KP hHeld
    refine anyK_done (by kernel_rfl) ?_ _
    go_wp2_with fail
    exact ⟨rfl, _, results_none Try.results69 _ _ _, rfl, rfl⟩
  · go_simp
    refine hK.out _ _ ?_ (fun hH2 => ?_)
    · exact hHeld
    clear hK KP hHeld
    have hHeld := hH2
    clear hH2
    try simp only [Act.put]
    try simp only [List.setIfInBounds_toArray]
    try simp only [List.set_cons_succ, List.set_cons_zero]
    refine anyK_step (i := 8) (by kernel_rfl) rfl (fun KP hK => ?_)
    go_simp
    refine (impl_statusShift x (by omega) _).mono ?_
    rintro e w1 ⟨rfl, e1⟩
    subst w1
    rw [hm]
    go_wp2_with fail
    refine hK.out _ _ ?_ (fun hH2 => ?_)
    · exact hHeld
    clear hK KP hHeld
    have hHeld := hH2
    clear hH2
    try simp only [Act.put]
    try simp only [List.setIfInBounds_toArray]
    try simp only [List.set_cons_succ, List.set_cons_zero]
    refine anyK_take (i := 9) (v := ?v177) rfl (by kernel_rfl) (by kernel_rfl) (by kernel_rfl) (by kernel_rfl) (fun _ _ _ h => h) (by rfl) hHeld ?hy177 (some 15) (by rfl) ?rest177
    case hy177 => (intro W hSw; (try dsimp only at hSw); go_simp; (try with_reducible rfl))
    try simp only [Act.put]
    try simp only [List.setIfInBounds_toArray]
    try simp only [List.set_cons_succ, List.set_cons_zero]
    refine anyK_take (i := 10) (v := ?v178) rfl (by kernel_rfl) (by kernel_rfl) (by kernel_rfl) (by kernel_rfl) (fun _ _ _ h => h) (by rfl) hHeld ?hy178 (some 16) (by rfl) ?rest178
    case hy178 => (intro W hSw; (try dsimp only at hSw); go_simp; (try with_reducible rfl))
    try simp only [Act.put]
    try simp only [List.setIfInBounds_toArray]
    try simp only [List.set_cons_succ, List.set_cons_zero]
    refine anyK_take (i := 11) (v := ?v179) rfl (by kernel_rfl) (by kernel_rfl) (by kernel_rfl) (by kernel_rfl) (fun _ _ _ h => h) (by rfl) hHeld ?hy179 (some 17) (by rfl) ?rest179
    case hy179 => (intro W hSw; (try dsimp only at hSw); go_simp; (try with_reducible rfl))
    try simp only [Act.put]
    try simp only [List.setIfInBounds_toArray]
    try simp only [List.set_cons_succ, List.set_cons_zero]
    refine anyK_take (i := 13) (v := ?v180) rfl (by kernel_rfl) (by kernel_rfl) (by kernel_rfl) (by kernel_rfl) (fun _ _ _ h => h) (by rfl) hHeld ?hy180 (some 19) (by rfl) ?rest180
    case hy180 => (intro W hSw; (try dsimp only at hSw); go_simp; (try with_reducible rfl))
    try simp only [Act.put]
    try simp only [List.setIfInBounds_toArray]
    try simp only [List.set_cons_succ, List.set_cons_zero]
    refine anyK_last (by kernel_rfl) rfl (fun KP hK => ?_)
    go_simp
    refine hK.out _ _ ?_
    clear hK KP hHeld
    refine anyK_done (by kernel_rfl) ?_ _
    go_wp2_with fail
    exact ⟨rfl, _, results_none Try.results69 _ _ _, rfl, rfl⟩

set_option maxHeartbeats 3200000 in
theorem put_1 {w : World} {p j x : Nat} {b nb : Int} (hx : x ≤ 400) (hj : (x : Int) / 4 = (j : Int)) (hm : x % 4 * 2 = 2) (hc : w.cell? ⟨p, j, none⟩ = some (.int .u8 b)) (hf : w.frozen? ⟨p, j, none⟩ = false) (s : Int) (hs0 : 0 ≤ s) (hs2 : s ≤ 2) (hor : bits .or .u8 b (s * 4) = nb) :
    Calls Try.prog 69 #[.pointer (some ⟨p, 0, none⟩), .int .i64 x, .int .i64 s] w fun e w' => e = .returned (.tuple #[]) ∧ w' = (w.setCell ⟨p, j, none⟩ (.int .u8 nb)).drew := by
  have hw : IntKind.i64.wrap (j : Int) = (j : Int) := by simp [IntKind.wrap, IntKind.bits, IntKind.signed]; omega
  have hw1 : IntKind.i64.wrap (s * 4) = s * 4 := by simp [IntKind.wrap, IntKind.bits, IntKind.signed]; omega
  have hw2 : IntKind.u8.wrap (s * 4) = s * 4 := by simp [IntKind.wrap, IntKind.bits, IntKind.signed]; omega
  have hj0 : (0 : Int) ≤ (j : Int) := by omega
  have hj2 : (j : Int) < 101 := by omega
  have hf2 : w.drew.frozen? ⟨p, j, none⟩ = false := ((Still.drew w).frozen _).trans hf
  go_enter Try.func69, Try.ntmps69
  refine region_K 14 (fun W => W.cell? ⟨p, j, none⟩ = some (.int .u8 b)) (by kernel_rfl) ?_ (fun hHeld => ?_)
  · exact ((Still.drew w).cell _).trans hc
  refine anyK_take (i := 0) (v := ?v181) rfl (by kernel_rfl) (by kernel_rfl) (by kernel_rfl) (by kernel_rfl) (fun _ _ _ h => h) (by rfl) hHeld ?hy181 (some 6) (by rfl) ?rest181
  case hy181 => (intro W hSw; (try dsimp only at hSw); go_simp; (try with_reducible rfl))
  try simp only [Act.put]
  try simp only [List.setIfInBounds_toArray]
  try simp only [List.set_cons_succ, List.set_cons_zero]
  refine anyK_take (i := 1) (v := ?v182) rfl (by kernel_rfl) (by kernel_rfl) (by kernel_rfl) (by kernel_rfl) (fun _ _ _ h => h) (by rfl) hHeld ?hy182 (some 7) (by rfl) ?rest182
  case hy182 => (intro W hSw; (try dsimp only at hSw); go_simp; (try with_reducible rfl))
  try simp only [Act.put]
  try simp only [List.setIfInBounds_toArray]
  try simp only [List.set_cons_succ, List.set_cons_zero]
  refine anyK_take (i := 2) (v := ?v183) rfl (by kernel_rfl) (by kernel_rfl) (by kernel_rfl) (by kernel_rfl) (fun _ _ _ h => h) (by rfl) hHeld ?hy183 (some 8) (by rfl) ?rest183
  case hy183 => (intro W hSw; (try dsimp only at hSw); go_simp; (try with_reducible rfl))
  try simp only [Act.put]
  try simp only [List.setIfInBounds_toArray]
  try simp only [List.set_cons_succ, List.set_cons_zero]
  refine anyK_take (i := 3) (v := ?v184) rfl (by kernel_rfl) (by kernel_rfl) (by kernel_rfl) (by kernel_rfl) (fun _ _ _ h => h) (by rfl) hHeld ?hy184 (some 9) (by rfl) ?rest184
  case hy184 => (intro W hSw; (try dsimp only at hSw); go_simp; (try with_reducible rfl))
  try simp only [Act.put]
  try simp only [List.setIfInBounds_toArray]
  try simp only [List.set_cons_succ, List.set_cons_zero]
  refine anyK_take (i := 4) (v := ?v185) rfl (by kernel_rfl) (by kernel_rfl) (by kernel_rfl) (by kernel_rfl) (fun _ _ _ h => h) (by rfl) hHeld ?hy185 (some 10) (by rfl) ?rest185
  case hy185 => (intro W hSw; (try dsimp only at hSw); go_simp; (try with_reducible rfl))
  try simp only [Act.put]
  try simp only [List.setIfInBounds_toArray]
  try simp only [List.set_cons_succ, List.set_cons_zero]
  refine anyK_take (i := 5) (v := ?v186) rfl (by kernel_rfl) (by kernel_rfl) (by kernel_rfl) (by kernel_rfl) (fun _ _ _ h => h) (by rfl) hHeld ?hy186 (some 11) (by rfl) ?rest186
  case hy186 => (intro W hSw; (try dsimp only at hSw); go_simp; (try with_reducible rfl))
  try simp only [Act.put]
  try simp only [List.setIfInBounds_toArray]
  try simp only [List.set_cons_succ, List.set_cons_zero]
  refine anyK_take (i := 6) (v := ?v187) rfl (by kernel_rfl) (by kernel_rfl) (by kernel_rfl) (by kernel_rfl) (fun _ _ _ h => h) (by rfl) hHeld ?hy187 (some 12) (by rfl) ?rest187
  case hy187 => (intro W hSw; (try dsimp only at hSw); go_simp; (try with_reducible rfl))
  try simp only [Act.put]
  try simp only [List.setIfInBounds_toArray]
  try simp only [List.set_cons_succ, List.set_cons_zero]
  refine anyK_take (i := 7) (v := ?v188) rfl (by kernel_rfl) (by kernel_rfl) (by kernel_rfl) (by kernel_rfl) (fun _ _ _ h => h) (by rfl) hHeld ?hy188 (some 13) (by rfl) ?rest188
  case hy188 => (intro W hSw; (try dsimp only at hSw); go_simp; (try with_reducible rfl))
  try simp only [Act.put]
  try simp only [List.setIfInBounds_toArray]
  try simp only [List.set_cons_succ, List.set_cons_zero]
  refine anyK_two (i := 8) (j := 12) (by kernel_rfl) rfl rfl (fun KP hK => ?_) (fun KP hK => ?_)
  · go_simp
    refine (impl_statusShift x (by omega) _).mono ?_
    rintro e w1 ⟨rfl, e1⟩
    subst w1
    rw [hm]
    go_wp2_with fail
    refine hK.out _ _ ?_ (fun hH2 => ?_)
    · exact hHeld
    clear hK KP hHeld
    have hHeld := hH2
    clear hH2
    try simp only [Act.put]
    try simp only [List.setIfInBounds_toArray]
    try simp only [List.set_cons_succ, List.set_cons_zero]
    refine anyK_take (i := 9) (v := ?v189) rfl (by kernel_rfl) (by kernel_rfl) (by kernel_rfl) (by kernel_rfl) (fun _ _ _ h => h) (by rfl) hHeld ?hy189 (some 15) (by rfl) ?rest189
    case hy189 => (intro W hSw; (try dsimp only at hSw); go_simp; (try with_reducible rfl))
    try simp only [Act.put]
    try simp only [List.setIfInBounds_toArray]
    try simp only [List.set_cons_succ, List.set_cons_zero]
    refine anyK_take (i := 10) (v := ?v190) rfl (by kernel_rfl) (by kernel_rfl) (by kernel_rfl) (by kernel_rfl) (fun _ _ _ h => h) (by rfl) hHeld ?hy190 (some 16) (by rfl) ?rest190
    case hy190 => (intro W hSw; (try dsimp only at hSw); go_simp; (try with_reducible rfl))
    try simp only [Act.put]
    try simp only [List.setIfInBounds_toArray]
    try simp only [List.set_cons_succ, List.set_cons_zero]
    refine anyK_take (i := 11) (v := ?v191) rfl (by kernel_rfl) (by kernel_rfl) (by kernel_rfl) (by kernel_rfl) (fun _ _ _ h => h) (by rfl) hHeld ?hy191 (some 17) (by rfl) ?rest191
    case hy191 => (intro W hSw; (try dsimp only at hSw); go_simp; (try with_reducible rfl))
    try simp only [Act.put]
    try simp only [List.setIfInBounds_toArray]
    try simp only [List.set_cons_succ, List.set_cons_zero]
    refine anyK_step (i := 12) (by kernel_rfl) rfl (fun KP hK => ?_)
    go_simp
    refine hK.out _ _ ?_ (fun hH2 => ?_)
    · exact hHeld
    clear hK KP hHeld
    have hHeld := hH2
    clear hH2
    try simp only [Act.put]
    try simp only [List.setIfInBounds_toArray]
    try simp only [List.set_cons_succ, List.set_cons_zero]
    refine anyK_take (i := 13) (v := ?v192) rfl (by kernel_rfl) (by kernel_rfl) (by kernel_rfl) (by kernel_rfl) (fun _ _ _ h => h) (by rfl) hHeld ?hy192 (some 19) (by rfl) ?rest192
    case hy192 => (intro W hSw; (try dsimp only at hSw); go_simp; (try with_reducible rfl))
    try simp only [Act.put]
    try simp only [List.setIfInBounds_toArray]
    try simp only [List.set_cons_succ, List.set_cons_zero]
    refine anyK_last (by kernel_rfl) rfl (fun KP hK => ?_)
    go_simp
    refine hK.out _ _ ?_
    clear hK KP hHeld
    refine anyK_done (by kernel_rfl) ?_ _
    go_wp2_with fail
    exact ⟨rfl, _, results_none Try.results69 _ _ _, rfl, rfl⟩
  · go_simp
    refine hK.out _ _ ?_ (fun hH2 => ?_)
    · exact hHeld
    clear hK KP hHeld
    have hHeld := hH2
    clear hH2
    try simp only [Act.put]
    try simp only [List.setIfInBounds_toArray]
    try simp only [List.set_cons_succ, List.set_cons_zero]
    refine anyK_step (i := 8) (by kernel_rfl) rfl (fun KP hK => ?_)
    go_simp
    refine (impl_statusShift x (by omega) _).mono ?_
    rintro e w1 ⟨rfl, e1⟩
    subst w1
    rw [hm]
    go_wp2_with fail
    refine hK.out _ _ ?_ (fun hH2 => ?_)
    · exact hHeld
    clear hK KP hHeld
    have hHeld := hH2
    clear hH2
    try simp only [Act.put]
    try simp only [List.setIfInBounds_toArray]
    try simp only [List.set_cons_succ, List.set_cons_zero]
    refine anyK_take (i := 9) (v := ?v193) rfl (by kernel_rfl) (by kernel_rfl) (by kernel_rfl) (by kernel_rfl) (fun _ _ _ h => h) (by rfl) hHeld ?hy193 (some 15) (by rfl) ?rest193
    case hy193 => (intro W hSw; (try dsimp only at hSw); go_simp; (try with_reducible rfl))
    try simp only [Act.put]
    try simp only [List.setIfInBounds_toArray]
    try simp only [List.set_cons_succ, List.set_cons_zero]
    refine anyK_take (i := 10) (v := ?v194) rfl (by kernel_rfl) (by kernel_rfl) (by kernel_rfl) (by kernel_rfl) (fun _ _ _ h => h) (by rfl) hHeld ?hy194 (some 16) (by rfl) ?rest194
    case hy194 => (intro W hSw; (try dsimp only at hSw); go_simp; (try with_reducible rfl))
    try simp only [Act.put]
    try simp only [List.setIfInBounds_toArray]
    try simp only [List.set_cons_succ, List.set_cons_zero]
    refine anyK_take (i := 11) (v := ?v195) rfl (by kernel_rfl) (by kernel_rfl) (by kernel_rfl) (by kernel_rfl) (fun _ _ _ h => h) (by rfl) hHeld ?hy195 (some 17) (by rfl) ?rest195
    case hy195 => (intro W hSw; (try dsimp only at hSw); go_simp; (try with_reducible rfl))
    try simp only [Act.put]
    try simp only [List.setIfInBounds_toArray]
    try simp only [List.set_cons_succ, List.set_cons_zero]
    refine anyK_take (i := 13) (v := ?v196) rfl (by kernel_rfl) (by kernel_rfl) (by kernel_rfl) (by kernel_rfl) (fun _ _ _ h => h) (by rfl) hHeld ?hy196 (some 19) (by rfl) ?rest196
    case hy196 => (intro W hSw; (try dsimp only at hSw); go_simp; (try with_reducible rfl))
    try simp only [Act.put]
    try simp only [List.setIfInBounds_toArray]
    try simp only [List.set_cons_succ, List.set_cons_zero]
    refine anyK_last (by kernel_rfl) rfl (fun KP hK => ?_)
    go_simp
    refine hK.out _ _ ?_
    clear hK KP hHeld
    refine anyK_done (by kernel_rfl) ?_ _
    go_wp2_with fail
    exact ⟨rfl, _, results_none Try.results69 _ _ _, rfl, rfl⟩

set_option maxHeartbeats 3200000 in
theorem put_2 {w : World} {p j x : Nat} {b nb : Int} (hx : x ≤ 400) (hj : (x : Int) / 4 = (j : Int)) (hm : x % 4 * 2 = 4) (hc : w.cell? ⟨p, j, none⟩ = some (.int .u8 b)) (hf : w.frozen? ⟨p, j, none⟩ = false) (s : Int) (hs0 : 0 ≤ s) (hs2 : s ≤ 2) (hor : bits .or .u8 b (s * 16) = nb) :
    Calls Try.prog 69 #[.pointer (some ⟨p, 0, none⟩), .int .i64 x, .int .i64 s] w fun e w' => e = .returned (.tuple #[]) ∧ w' = (w.setCell ⟨p, j, none⟩ (.int .u8 nb)).drew := by
  have hw : IntKind.i64.wrap (j : Int) = (j : Int) := by simp [IntKind.wrap, IntKind.bits, IntKind.signed]; omega
  have hw1 : IntKind.i64.wrap (s * 16) = s * 16 := by simp [IntKind.wrap, IntKind.bits, IntKind.signed]; omega
  have hw2 : IntKind.u8.wrap (s * 16) = s * 16 := by simp [IntKind.wrap, IntKind.bits, IntKind.signed]; omega
  have hj0 : (0 : Int) ≤ (j : Int) := by omega
  have hj2 : (j : Int) < 101 := by omega
  have hf2 : w.drew.frozen? ⟨p, j, none⟩ = false := ((Still.drew w).frozen _).trans hf
  go_enter Try.func69, Try.ntmps69
  refine region_K 14 (fun W => W.cell? ⟨p, j, none⟩ = some (.int .u8 b)) (by kernel_rfl) ?_ (fun hHeld => ?_)
  · exact ((Still.drew w).cell _).trans hc
  refine anyK_take (i := 0) (v := ?v197) rfl (by kernel_rfl) (by kernel_rfl) (by kernel_rfl) (by kernel_rfl) (fun _ _ _ h => h) (by rfl) hHeld ?hy197 (some 6) (by rfl) ?rest197
  case hy197 => (intro W hSw; (try dsimp only at hSw); go_simp; (try with_reducible rfl))
  try simp only [Act.put]
  try simp only [List.setIfInBounds_toArray]
  try simp only [List.set_cons_succ, List.set_cons_zero]
  refine anyK_take (i := 1) (v := ?v198) rfl (by kernel_rfl) (by kernel_rfl) (by kernel_rfl) (by kernel_rfl) (fun _ _ _ h => h) (by rfl) hHeld ?hy198 (some 7) (by rfl) ?rest198
  case hy198 => (intro W hSw; (try dsimp only at hSw); go_simp; (try with_reducible rfl))
  try simp only [Act.put]
  try simp only [List.setIfInBounds_toArray]
  try simp only [List.set_cons_succ, List.set_cons_zero]
  refine anyK_take (i := 2) (v := ?v199) rfl (by kernel_rfl) (by kernel_rfl) (by kernel_rfl) (by kernel_rfl) (fun _ _ _ h => h) (by rfl) hHeld ?hy199 (some 8) (by rfl) ?rest199
  case hy199 => (intro W hSw; (try dsimp only at hSw); go_simp; (try with_reducible rfl))
  try simp only [Act.put]
  try simp only [List.setIfInBounds_toArray]
  try simp only [List.set_cons_succ, List.set_cons_zero]
  refine anyK_take (i := 3) (v := ?v200) rfl (by kernel_rfl) (by kernel_rfl) (by kernel_rfl) (by kernel_rfl) (fun _ _ _ h => h) (by rfl) hHeld ?hy200 (some 9) (by rfl) ?rest200
  case hy200 => (intro W hSw; (try dsimp only at hSw); go_simp; (try with_reducible rfl))
  try simp only [Act.put]
  try simp only [List.setIfInBounds_toArray]
  try simp only [List.set_cons_succ, List.set_cons_zero]
  refine anyK_take (i := 4) (v := ?v201) rfl (by kernel_rfl) (by kernel_rfl) (by kernel_rfl) (by kernel_rfl) (fun _ _ _ h => h) (by rfl) hHeld ?hy201 (some 10) (by rfl) ?rest201
  case hy201 => (intro W hSw; (try dsimp only at hSw); go_simp; (try with_reducible rfl))
  try simp only [Act.put]
  try simp only [List.setIfInBounds_toArray]
  try simp only [List.set_cons_succ, List.set_cons_zero]
  refine anyK_take (i := 5) (v := ?v202) rfl (by kernel_rfl) (by kernel_rfl) (by kernel_rfl) (by kernel_rfl) (fun _ _ _ h => h) (by rfl) hHeld ?hy202 (some 11) (by rfl) ?rest202
  case hy202 => (intro W hSw; (try dsimp only at hSw); go_simp; (try with_reducible rfl))
  try simp only [Act.put]
  try simp only [List.setIfInBounds_toArray]
  try simp only [List.set_cons_succ, List.set_cons_zero]
  refine anyK_take (i := 6) (v := ?v203) rfl (by kernel_rfl) (by kernel_rfl) (by kernel_rfl) (by kernel_rfl) (fun _ _ _ h => h) (by rfl) hHeld ?hy203 (some 12) (by rfl) ?rest203
  case hy203 => (intro W hSw; (try dsimp only at hSw); go_simp; (try with_reducible rfl))
  try simp only [Act.put]
  try simp only [List.setIfInBounds_toArray]
  try simp only [List.set_cons_succ, List.set_cons_zero]
  refine anyK_take (i := 7) (v := ?v204) rfl (by kernel_rfl) (by kernel_rfl) (by kernel_rfl) (by kernel_rfl) (fun _ _ _ h => h) (by rfl) hHeld ?hy204 (some 13) (by rfl) ?rest204
  case hy204 => (intro W hSw; (try dsimp only at hSw); go_simp; (try with_reducible rfl))
  try simp only [Act.put]
  try simp only [List.setIfInBounds_toArray]
  try simp only [List.set_cons_succ, List.set_cons_zero]
  refine anyK_two (i := 8) (j := 12) (by kernel_rfl) rfl rfl (fun KP hK => ?_) (fun KP hK => ?_)
  · go_simp
    refine (impl_statusShift x (by omega) _).mono ?_
    rintro e w1 ⟨rfl, e1⟩
    subst w1
    rw [hm]
    go_wp2_with fail
    refine hK.out _ _ ?_ (fun hH2 => ?_)
    · exact hHeld
    clear hK KP hHeld
    have hHeld := hH2
    clear hH2
    try simp only [Act.put]
    try simp only [List.setIfInBounds_toArray]
    try simp only [List.set_cons_succ, List.set_cons_zero]
    refine anyK_take (i := 9) (v := ?v205) rfl (by kernel_rfl) (by kernel_rfl) (by kernel_rfl) (by kernel_rfl) (fun _ _ _ h => h) (by rfl) hHeld ?hy205 (some 15) (by rfl) ?rest205
    case hy205 => (intro W hSw; (try dsimp only at hSw); go_simp; (try with_reducible rfl))
    try simp only [Act.put]
    try simp only [List.setIfInBounds_toArray]
    try simp only [List.set_cons_succ, List.set_cons_zero]
    refine anyK_take (i := 10) (v := ?v206) rfl (by kernel_rfl) (by kernel_rfl) (by kernel_rfl) (by kernel_rfl) (fun _ _ _ h => h) (by rfl) hHeld ?hy206 (some 16) (by rfl) ?rest206
    case hy206 => (intro W hSw; (try dsimp only at hSw); go_simp; (try with_reducible rfl))
    try simp only [Act.put]
    try simp only [List.setIfInBounds_toArray]
    try simp only [List.set_cons_succ, List.set_cons_zero]
    refine anyK_take (i := 11) (v := ?v207) rfl (by kernel_rfl) (by kernel_rfl) (by kernel_rfl) (by kernel_rfl) (fun _ _ _ h => h) (by rfl) hHeld ?hy207 (some 17) (by rfl) ?rest207
    case hy207 => (intro W hSw; (try dsimp only at hSw); go_simp; (try with_reducible rfl))
    try simp only [Act.put]
    try simp only [List.setIfInBounds_toArray]
    try simp only [List.set_cons_succ, List.set_cons_zero]
    refine anyK_step (i := 12) (by kernel_rfl) rfl (fun KP hK => ?_)
    go_simp
    refine hK.out _ _ ?_ (fun hH2 => ?_)
    · exact hHeld
    clear hK KP hHeld
    have hHeld := hH2
    clear hH2
    try simp only [Act.put]
    try simp only [List.setIfInBounds_toArray]
    try simp only [List.set_cons_succ, List.set_cons_zero]
    refine anyK_take (i := 13) (v := ?v208) rfl (by kernel_rfl) (by kernel_rfl) (by kernel_rfl) (by kernel_rfl) (fun _ _ _ h => h) (by rfl) hHeld ?hy208 (some 19) (by rfl) ?rest208
    case hy208 => (intro W hSw; (try dsimp only at hSw); go_simp; (try with_reducible rfl))
    try simp only [Act.put]
    try simp only [List.setIfInBounds_toArray]
    try simp only [List.set_cons_succ, List.set_cons_zero]
    refine anyK_last (by kernel_rfl) rfl (fun KP hK => ?_)
    go_simp
    refine hK.out _ _ ?_
    clear hK KP hHeld
    refine anyK_done (by kernel_rfl) ?_ _
    go_wp2_with fail
    exact ⟨rfl, _, results_none Try.results69 _ _ _, rfl, rfl⟩
  · go_simp
    refine hK.out _ _ ?_ (fun hH2 => ?_)
    · exact hHeld
    clear hK KP hHeld
    have hHeld := hH2
    clear hH2
    try simp only [Act.put]
    try simp only [List.setIfInBounds_toArray]
    try simp only [List.set_cons_succ, List.set_cons_zero]
    refine anyK_step (i := 8) (by kernel_rfl) rfl (fun KP hK => ?_)
    go_simp
    refine (impl_statusShift x (by omega) _).mono ?_
    rintro e w1 ⟨rfl, e1⟩
    subst w1
    rw [hm]
    go_wp2_with fail
    refine hK.out _ _ ?_ (fun hH2 => ?_)
    · exact hHeld
    clear hK KP hHeld
    have hHeld := hH2
    clear hH2
    try simp only [Act.put]
    try simp only [List.setIfInBounds_toArray]
    try simp only [List.set_cons_succ, List.set_cons_zero]
    refine anyK_take (i := 9) (v := ?v209) rfl (by kernel_rfl) (by kernel_rfl) (by kernel_rfl) (by kernel_rfl) (fun _ _ _ h => h) (by rfl) hHeld ?hy209 (some 15) (by rfl) ?rest209
    case hy209 => (intro W hSw; (try dsimp only at hSw); go_simp; (try with_reducible rfl))
    try simp only [Act.put]
    try simp only [List.setIfInBounds_toArray]
    try simp only [List.set_cons_succ, List.set_cons_zero]
    refine anyK_take (i := 10) (v := ?v210) rfl (by kernel_rfl) (by kernel_rfl) (by kernel_rfl) (by kernel_rfl) (fun _ _ _ h => h) (by rfl) hHeld ?hy210 (some 16) (by rfl) ?rest210
    case hy210 => (intro W hSw; (try dsimp only at hSw); go_simp; (try with_reducible rfl))
    try simp only [Act.put]
    try simp only [List.setIfInBounds_toArray]
    try simp only [List.set_cons_succ, List.set_cons_zero]
    refine anyK_take (i := 11) (v := ?v211) rfl (by kernel_rfl) (by kernel_rfl) (by kernel_rfl) (by kernel_rfl) (fun _ _ _ h => h) (by rfl) hHeld ?hy211 (some 17) (by rfl) ?rest211
    case hy211 => (intro W hSw; (try dsimp only at hSw); go_simp; (try with_reducible rfl))
    try simp only [Act.put]
    try simp only [List.setIfInBounds_toArray]
    try simp only [List.set_cons_succ, List.set_cons_zero]
    refine anyK_take (i := 13) (v := ?v212) rfl (by kernel_rfl) (by kernel_rfl) (by kernel_rfl) (by kernel_rfl) (fun _ _ _ h => h) (by rfl) hHeld ?hy212 (some 19) (by rfl) ?rest212
    case hy212 => (intro W hSw; (try dsimp only at hSw); go_simp; (try with_reducible rfl))
    try simp only [Act.put]
    try simp only [List.setIfInBounds_toArray]
    try simp only [List.set_cons_succ, List.set_cons_zero]
    refine anyK_last (by kernel_rfl) rfl (fun KP hK => ?_)
    go_simp
    refine hK.out _ _ ?_
    clear hK KP hHeld
    refine anyK_done (by kernel_rfl) ?_ _
    go_wp2_with fail
    exact ⟨rfl, _, results_none Try.results69 _ _ _, rfl, rfl⟩

set_option maxHeartbeats 3200000 in
theorem put_3 {w : World} {p j x : Nat} {b nb : Int} (hx : x ≤ 400) (hj : (x : Int) / 4 = (j : Int)) (hm : x % 4 * 2 = 6) (hc : w.cell? ⟨p, j, none⟩ = some (.int .u8 b)) (hf : w.frozen? ⟨p, j, none⟩ = false) (s : Int) (hs0 : 0 ≤ s) (hs2 : s ≤ 2) (hor : bits .or .u8 b (s * 64) = nb) :
    Calls Try.prog 69 #[.pointer (some ⟨p, 0, none⟩), .int .i64 x, .int .i64 s] w fun e w' => e = .returned (.tuple #[]) ∧ w' = (w.setCell ⟨p, j, none⟩ (.int .u8 nb)).drew := by
  have hw : IntKind.i64.wrap (j : Int) = (j : Int) := by simp [IntKind.wrap, IntKind.bits, IntKind.signed]; omega
  have hw1 : IntKind.i64.wrap (s * 64) = s * 64 := by simp [IntKind.wrap, IntKind.bits, IntKind.signed]; omega
  have hw2 : IntKind.u8.wrap (s * 64) = s * 64 := by simp [IntKind.wrap, IntKind.bits, IntKind.signed]; omega
  have hj0 : (0 : Int) ≤ (j : Int) := by omega
  have hj2 : (j : Int) < 101 := by omega
  have hf2 : w.drew.frozen? ⟨p, j, none⟩ = false := ((Still.drew w).frozen _).trans hf
  go_enter Try.func69, Try.ntmps69
  refine region_K 14 (fun W => W.cell? ⟨p, j, none⟩ = some (.int .u8 b)) (by kernel_rfl) ?_ (fun hHeld => ?_)
  · exact ((Still.drew w).cell _).trans hc
  refine anyK_take (i := 0) (v := ?v213) rfl (by kernel_rfl) (by kernel_rfl) (by kernel_rfl) (by kernel_rfl) (fun _ _ _ h => h) (by rfl) hHeld ?hy213 (some 6) (by rfl) ?rest213
  case hy213 => (intro W hSw; (try dsimp only at hSw); go_simp; (try with_reducible rfl))
  try simp only [Act.put]
  try simp only [List.setIfInBounds_toArray]
  try simp only [List.set_cons_succ, List.set_cons_zero]
  refine anyK_take (i := 1) (v := ?v214) rfl (by kernel_rfl) (by kernel_rfl) (by kernel_rfl) (by kernel_rfl) (fun _ _ _ h => h) (by rfl) hHeld ?hy214 (some 7) (by rfl) ?rest214
  case hy214 => (intro W hSw; (try dsimp only at hSw); go_simp; (try with_reducible rfl))
  try simp only [Act.put]
  try simp only [List.setIfInBounds_toArray]
  try simp only [List.set_cons_succ, List.set_cons_zero]
  refine anyK_take (i := 2) (v := ?v215) rfl (by kernel_rfl) (by kernel_rfl) (by kernel_rfl) (by kernel_rfl) (fun _ _ _ h => h) (by rfl) hHeld ?hy215 (some 8) (by rfl) ?rest215
  case hy215 => (intro W hSw; (try dsimp only at hSw); go_simp; (try with_reducible rfl))
  try simp only [Act.put]
  try simp only [List.setIfInBounds_toArray]
  try simp only [List.set_cons_succ, List.set_cons_zero]
  refine anyK_take (i := 3) (v := ?v216) rfl (by kernel_rfl) (by kernel_rfl) (by kernel_rfl) (by kernel_rfl) (fun _ _ _ h => h) (by rfl) hHeld ?hy216 (some 9) (by rfl) ?rest216
  case hy216 => (intro W hSw; (try dsimp only at hSw); go_simp; (try with_reducible rfl))
  try simp only [Act.put]
  try simp only [List.setIfInBounds_toArray]
  try simp only [List.set_cons_succ, List.set_cons_zero]
  refine anyK_take (i := 4) (v := ?v217) rfl (by kernel_rfl) (by kernel_rfl) (by kernel_rfl) (by kernel_rfl) (fun _ _ _ h => h) (by rfl) hHeld ?hy217 (some 10) (by rfl) ?rest217
  case hy217 => (intro W hSw; (try dsimp only at hSw); go_simp; (try with_reducible rfl))
  try simp only [Act.put]
  try simp only [List.setIfInBounds_toArray]
  try simp only [List.set_cons_succ, List.set_cons_zero]
  refine anyK_take (i := 5) (v := ?v218) rfl (by kernel_rfl) (by kernel_rfl) (by kernel_rfl) (by kernel_rfl) (fun _ _ _ h => h) (by rfl) hHeld ?hy218 (some 11) (by rfl) ?rest218
  case hy218 => (intro W hSw; (try dsimp only at hSw); go_simp; (try with_reducible rfl))
  try simp only [Act.put]
  try simp only [List.setIfInBounds_toArray]
  try simp only [List.set_cons_succ, List.set_cons_zero]
  refine anyK_take (i := 6) (v := ?v219) rfl (by kernel_rfl) (by kernel_rfl) (by kernel_rfl) (by kernel_rfl) (fun _ _ _ h => h) (by rfl) hHeld ?hy219 (some 12) (by rfl) ?rest219
  case hy219 => (intro W hSw; (try dsimp only at hSw); go_simp; (try with_reducible rfl))
  try simp only [Act.put]
  try simp only [List.setIfInBounds_toArray]
  try simp only [List.set_cons_succ, List.set_cons_zero]
  refine anyK_take (i := 7) (v := ?v220) rfl (by kernel_rfl) (by kernel_rfl) (by kernel_rfl) (by kernel_rfl) (fun _ _ _ h => h) (by rfl) hHeld ?hy220 (some 13) (by rfl) ?rest220
  case hy220 => (intro W hSw; (try dsimp only at hSw); go_simp; (try with_reducible rfl))
  try simp only [Act.put]
  try simp only [List.setIfInBounds_toArray]
  try simp only [List.set_cons_succ, List.set_cons_zero]
  refine anyK_two (i := 8) (j := 12) (by kernel_rfl) rfl rfl (fun KP hK => ?_) (fun KP hK => ?_)
  · go_simp
    refine (impl_statusShift x (by omega) _).mono ?_
    rintro e w1 ⟨rfl, e1⟩
    subst w1
    rw [hm]
    go_wp2_with fail
    refine hK.out _ _ ?_ (fun hH2 => ?_)
    · exact hHeld
    clear hK KP hHeld
    have hHeld := hH2
    clear hH2
    try simp only [Act.put]
    try simp only [List.setIfInBounds_toArray]
    try simp only [List.set_cons_succ, List.set_cons_zero]
    refine anyK_take (i := 9) (v := ?v221) rfl (by kernel_rfl) (by kernel_rfl) (by kernel_rfl) (by kernel_rfl) (fun _ _ _ h => h) (by rfl) hHeld ?hy221 (some 15) (by rfl) ?rest221
    case hy221 => (intro W hSw; (try dsimp only at hSw); go_simp; (try with_reducible rfl))
    try simp only [Act.put]
    try simp only [List.setIfInBounds_toArray]
    try simp only [List.set_cons_succ, List.set_cons_zero]
    refine anyK_take (i := 10) (v := ?v222) rfl (by kernel_rfl) (by kernel_rfl) (by kernel_rfl) (by kernel_rfl) (fun _ _ _ h => h) (by rfl) hHeld ?hy222 (some 16) (by rfl) ?rest222
    case hy222 => (intro W hSw; (try dsimp only at hSw); go_simp; (try with_reducible rfl))
    try simp only [Act.put]
    try simp only [List.setIfInBounds_toArray]
    try simp only [List.set_cons_succ, List.set_cons_zero]
    refine anyK_take (i := 11) (v := ?v223) rfl (by kernel_rfl) (by kernel_rfl) (by kernel_rfl) (by kernel_rfl) (fun _ _ _ h => h) (by rfl) hHeld ?hy223 (some 17) (by rfl) ?rest223
    case hy223 => (intro W hSw; (try dsimp only at hSw); go_simp; (try with_reducible rfl))
    try simp only [Act.put]
    try simp only [List.setIfInBounds_toArray]
    try simp only [List.set_cons_succ, List.set_cons_zero]
    refine anyK_step (i := 12) (by kernel_rfl) rfl (fun KP hK => ?_)
    go_simp
    refine hK.out _ _ ?_ (fun hH2 => ?_)
    · exact hHeld
    clear hK KP hHeld
    have hHeld := hH2
    clear hH2
    try simp only [Act.put]
    try simp only [List.setIfInBounds_toArray]
    try simp only [List.set_cons_succ, List.set_cons_zero]
    refine anyK_take (i := 13) (v := ?v224) rfl (by kernel_rfl) (by kernel_rfl) (by kernel_rfl) (by kernel_rfl) (fun _ _ _ h => h) (by rfl) hHeld ?hy224 (some 19) (by rfl) ?rest224
    case hy224 => (intro W hSw; (try dsimp only at hSw); go_simp; (try with_reducible rfl))
    try simp only [Act.put]
    try simp only [List.setIfInBounds_toArray]
    try simp only [List.set_cons_succ, List.set_cons_zero]
    refine anyK_last (by kernel_rfl) rfl (fun KP hK => ?_)
    go_simp
    refine hK.out _ _ ?_
    clear hK KP hHeld
    refine anyK_done (by kernel_rfl) ?_ _
    go_wp2_with fail
    exact ⟨rfl, _, results_none Try.results69 _ _ _, rfl, rfl⟩
  · go_simp
    refine hK.out _ _ ?_ (fun hH2 => ?_)
    · exact hHeld
    clear hK KP hHeld
    have hHeld := hH2
    clear hH2
    try simp only [Act.put]
    try simp only [List.setIfInBounds_toArray]
    try simp only [List.set_cons_succ, List.set_cons_zero]
    refine anyK_step (i := 8) (by kernel_rfl) rfl (fun KP hK => ?_)
    go_simp
    refine (impl_statusShift x (by omega) _).mono ?_
    rintro e w1 ⟨rfl, e1⟩
    subst w1
    rw [hm]
    go_wp2_with fail
    refine hK.out _ _ ?_ (fun hH2 => ?_)
    · exact hHeld
    clear hK KP hHeld
    have hHeld := hH2
    clear hH2
    try simp only [Act.put]
    try simp only [List.setIfInBounds_toArray]
    try simp only [List.set_cons_succ, List.set_cons_zero]
    refine anyK_take (i := 9) (v := ?v225) rfl (by kernel_rfl) (by kernel_rfl) (by kernel_rfl) (by kernel_rfl) (fun _ _ _ h => h) (by rfl) hHeld ?hy225 (some 15) (by rfl) ?rest225
    case hy225 => (intro W hSw; (try dsimp only at hSw); go_simp; (try with_reducible rfl))
    try simp only [Act.put]
    try simp only [List.setIfInBounds_toArray]
    try simp only [List.set_cons_succ, List.set_cons_zero]
    refine anyK_take (i := 10) (v := ?v226) rfl (by kernel_rfl) (by kernel_rfl) (by kernel_rfl) (by kernel_rfl) (fun _ _ _ h => h) (by rfl) hHeld ?hy226 (some 16) (by rfl) ?rest226
    case hy226 => (intro W hSw; (try dsimp only at hSw); go_simp; (try with_reducible rfl))
    try simp only [Act.put]
    try simp only [List.setIfInBounds_toArray]
    try simp only [List.set_cons_succ, List.set_cons_zero]
    refine anyK_take (i := 11) (v := ?v227) rfl (by kernel_rfl) (by kernel_rfl) (by kernel_rfl) (by kernel_rfl) (fun _ _ _ h => h) (by rfl) hHeld ?hy227 (some 17) (by rfl) ?rest227
    case hy227 => (intro W hSw; (try dsimp only at hSw); go_simp; (try with_reducible rfl))
    try simp only [Act.put]
    try simp only [List.setIfInBounds_toArray]
    try simp only [List.set_cons_succ, List.set_cons_zero]
    refine anyK_take (i := 13) (v := ?v228) rfl (by kernel_rfl) (by kernel_rfl) (by kernel_rfl) (by kernel_rfl) (fun _ _ _ h => h) (by rfl) hHeld ?hy228 (some 19) (by rfl) ?rest228
    case hy228 => (intro W hSw; (try dsimp only at hSw); go_simp; (try with_reducible rfl))
    try simp only [Act.put]
    try simp only [List.setIfInBounds_toArray]
    try simp only [List.set_cons_succ, List.set_cons_zero]
    refine anyK_last (by kernel_rfl) rfl (fun KP hK => ?_)
    go_simp
    refine hK.out _ _ ?_
    clear hK KP hHeld
    refine anyK_done (by kernel_rfl) ?_ _
    go_wp2_with fail
    exact ⟨rfl, _, results_none Try.results69 _ _ _, rfl, rfl⟩

theorem put_arr {w : World} {p x : Nat} {zs : List Int} (h : Arr w p zs) (hx : x ≤ 400) (s : Int) (hs0 : 0 ≤ s) (hs2 : s ≤ 2) {nb : Int} (hnb : 0 ≤ nb ∧ nb ≤ 255)
    (hor : ∀ E : Nat, (x % 4 = 0 ∧ E = 1) ∨ (x % 4 = 1 ∧ E = 4) ∨ (x % 4 = 2 ∧ E = 16) ∨ (x % 4 = 3 ∧ E = 64) → bits .or .u8 (zs.getD (x / 4) 0) (s * (E : Int)) = nb) :
    Calls Try.prog 69 #[.pointer (some ⟨p, 0, none⟩), .int .i64 x, .int .i64 s] w fun e w' => e = .returned (.tuple #[]) ∧ Arr w' p (zs.set (x / 4) nb) ∧ w.grownBy w' (some p) := by
  have hj : (x : Int) / 4 = ((x / 4 : Nat) : Int) := by omega
  have hj1 : x / 4 < 101 := by omega
  have H : ∀ e w', e = Ending.returned (.tuple #[]) ∧ w' = (w.setCell ⟨p, x / 4, none⟩ (.int .u8 nb)).drew → e = Ending.returned (.tuple #[]) ∧ Arr w' p (zs.set (x / 4) nb) ∧ w.grownBy w' (some p) := by
    rintro e w' ⟨rfl, rfl⟩
    exact ⟨rfl, h.set hj1 hnb, grown_trans (grown_set8 w p (x / 4) _) (grown_st8 (Still.drew _))⟩
  rcases (show x % 4 = 0 ∨ x % 4 = 1 ∨ x % 4 = 2 ∨ x % 4 = 3 by omega) with hm | hm | hm | hm
  · exact (put_0 hx hj (by omega) (h.cell hj1) (h.frozen _) s hs0 hs2 (by have := hor 1 (by omega); simpa using this)).mono H
  · exact (put_1 hx hj (by omega) (h.cell hj1) (h.frozen _) s hs0 hs2 (hor 4 (by omega))).mono H
  · exact (put_2 hx hj (by omega) (h.cell hj1) (h.frozen _) s hs0 hs2 (hor 16 (by omega))).mono H
  · exact (put_3 hx hj (by omega) (h.cell hj1) (h.frozen _) s hs0 hs2 (hor 64 (by omega))).mono H
end Go.Proofs.Ytioefplkadpfnaa
