/- Texts of this proof in one: Pp Hf10 Pf Hz10 Pu Pv Lv Wf Wi Ii10 Ij10 Ik10 Il10 Get Tc Tz Ti Tl Nzt. -/
import Derived.Test.YtkfhfjghfadofaaGreatMga
import Derived.Test.YtkfhfjghfadofaaGreatMgb
import Derived.Deep.RegionHeld3
import Derived.RangeFuncNested
import Derived.RangeFuncBound
import Derived.RangeFuncCalls
import Derived.RangeFuncLeaves
import Derived.RangeFuncBox
import Derived.Shelf.Abstract
import Derived.WalkKit
import Derived.OwnWalkIn
import Derived.TacticsInMore
import Derived.LoopNIn
import Derived.LoopIn
import Derived.WalkLawsBesides
import Derived.Laws.BitsAllLaws
import Derived.BigQuiet
import Derived.Deep.QuietTactic
import Derived.Laws.StructEq
/- Pages, plain: what is one, how much is used of it, where bytes would come, what is put and cleared. No program, no conditions. -/

namespace Go.Proofs.YtkfhfjghfadofaaGreat
def endF (ss : List (List Int)) : Bool := decide (0 < ss.length ∧ (ss.getD (ss.length - 1) []).length = 0)
def anyL (ss : List (List Int)) : Bool := ss.any fun z => decide (92 < z.length)
def okP (L : Int) (ss : List (List Int)) : Bool := decide (0 ≤ L ∧ L ≤ 1000000) && decide (ss.length ≤ 16) && !endF ss && !anyL ss && decide (1 + ss.length + tot ss ≤ 240)
def usedP (L : Int) (ss : List (List Int)) : Int := if okP L ss = true then 1 + (ss.length : Int) + (tot ss : Int) else -1
structure OkP (L : Int) (ss : List (List Int)) : Prop where
 l0 : 0 ≤ L
 l1 : L ≤ 1000000
 n : ss.length ≤ 16
 e : 0 < ss.length → 0 < (ss.getD (ss.length - 1) []).length
 z : ∀ i, (ss.getD i []).length ≤ 92
 t : 1 + ss.length + tot ss ≤ 240
theorem anyL_at {ss : List (List Int)} (h : anyL ss = false) (i : Nat) : (ss.getD i []).length ≤ 92 := by
 by_cases hi : i < ss.length
 · have := List.any_eq_false.1 h (ss.getD i []) (by simp [List.getD, hi])
   simpa using this
 · rw [List.getD_eq_getElem?_getD, List.getElem?_eq_none (by omega)]; simp
theorem anyL_no {ss : List (List Int)} (h : ∀ i, i < ss.length → (ss.getD i []).length ≤ 92) : anyL ss = false := by
 refine List.any_eq_false.2 fun x hx => ?_
 obtain ⟨i, hi, rfl⟩ := List.mem_iff_getElem.1 hx
 have := h i hi
 simp [List.getD, hi] at this
 simpa using this
theorem anyL_yes {ss : List (List Int)} {i : Nat} (h : 92 < (ss.getD i []).length) : anyL ss = true := by
 cases e : anyL ss with
 | true => rfl
 | false => have := anyL_at e i; omega
theorem okP_of {L : Int} {ss : List (List Int)} (h : okP L ss = true) : OkP L ss := by
 unfold okP at h
 simp only [Bool.and_eq_true, decide_eq_true_eq, Bool.not_eq_true'] at h
 obtain ⟨⟨⟨⟨h1, h2⟩, h3⟩, h4⟩, h5⟩ := h
 refine ⟨h1.1, h1.2, h2, fun h0 => ?_, anyL_at h4, h5⟩
 unfold endF at h3
 have := of_decide_eq_false h3
 omega
theorem okP_mk {L : Int} {ss : List (List Int)} (h : OkP L ss) : okP L ss = true := by
 unfold okP
 simp only [Bool.and_eq_true, decide_eq_true_eq, Bool.not_eq_true']
 refine ⟨⟨⟨⟨⟨h.l0, h.l1⟩, h.n⟩, ?_⟩, anyL_no fun i _ => h.z i⟩, h.t⟩
 unfold endF
 refine decide_eq_false ?_
 rintro ⟨h1, h2⟩
 have := h.e h1
 omega
theorem usedP_yes {L : Int} {ss : List (List Int)} (h : okP L ss = true) : usedP L ss = 1 + (ss.length : Int) + (tot ss : Int) := by unfold usedP; rw [if_pos h]
theorem usedP_no {L : Int} {ss : List (List Int)} (h : okP L ss = false) : usedP L ss = -1 := by unfold usedP; rw [if_neg (by simp [h])]
theorem usedP_bd {L : Int} {ss : List (List Int)} : (okP L ss = false ∧ usedP L ss = -1) ∨ (okP L ss = true ∧ 1 ≤ usedP L ss ∧ usedP L ss ≤ 240) := by
 cases h : okP L ss with
 | false => exact .inl ⟨rfl, usedP_no h⟩
 | true => have := (okP_of h).t; exact .inr ⟨rfl, by rw [usedP_yes h]; omega, by rw [usedP_yes h]; omega⟩
def trimP (ss : List (List Int)) : List (List Int) := (ss.reverse.dropWhile fun z => z.length == 0).reverse
theorem trimP_end (ss : List (List Int)) (z : List Int) (h : z.length ≠ 0) : trimP (ss ++ [z]) = ss ++ [z] := by
 have e : (z.length == 0) = false := by simpa using h
 simp [trimP, e]
theorem trimP_free (ss : List (List Int)) (z : List Int) (h : z.length = 0) : trimP (ss ++ [z]) = trimP ss := by
 have e : (z.length == 0) = true := by simpa using h
 simp [trimP, e]
theorem trimP_ok {ss : List (List Int)} (h : 0 < ss.length → 0 < (ss.getD (ss.length - 1) []).length) : trimP ss = ss := by
 rcases List.eq_nil_or_concat ss with rfl | ⟨xs, z, rfl⟩
 · rfl
 · rw [List.concat_eq_append]
   refine trimP_end xs z ?_
   have := h (by simp)
   simp [List.getD] at this
   have h2 : z.length = 0 ↔ z = [] := List.length_eq_zero_iff
   omega
theorem trimP_take (ss : List (List Int)) : ∀ k, k ≤ ss.length → (∀ j, k ≤ j → j < ss.length → (ss.getD j []).length = 0) → trimP ss = trimP (ss.take k) := by
 intro k hk h
 obtain ⟨m, hm⟩ : ∃ m, ss.length - k = m := ⟨_, rfl⟩
 induction m generalizing k with
 | zero => rw [List.take_of_length_le (by omega)]
 | succ m ih =>
  have e := ih (k + 1) (by omega) (fun j h1 h2 => h j (by omega) h2) (by omega)
  rw [e, List.take_succ_eq_append_getElem (by omega : k < ss.length)]
  refine trimP_free _ _ ?_
  have := h k (Nat.le_refl _) (by omega)
  simpa [List.getD, show k < ss.length by omega] using this
theorem trimP_stop {ss : List (List Int)} {k : Nat} (hk : k < ss.length) (h : (ss.getD k []).length ≠ 0) (hj : ∀ j, k < j → j < ss.length → (ss.getD j []).length = 0) : trimP ss = ss.take (k + 1) := by
 rw [trimP_take ss (k + 1) (by omega) (fun j h1 h2 => hj j (by omega) h2), List.take_succ_eq_append_getElem hk]
 refine trimP_end _ _ ?_
 simpa [List.getD, hk] using h
theorem trimP_all {ss : List (List Int)} (hj : ∀ j, j < ss.length → (ss.getD j []).length = 0) : trimP ss = [] := by
 rw [trimP_take ss 0 (Nat.zero_le _) (fun j _ h2 => hj j h2)]; rfl
def layP (ss : List (List Int)) (slot : Nat) (z : List Int) : List (List Int) := (ss ++ List.replicate (slot + 1 - ss.length) []).set slot z
theorem layP_length (ss : List (List Int)) (slot : Nat) (z : List Int) : (layP ss slot z).length = max ss.length (slot + 1) := by simp [layP]; omega
theorem layP_at (ss : List (List Int)) (slot : Nat) (z : List Int) (i : Nat) : (layP ss slot z).getD i [] = if i = slot then z else ss.getD i [] := by
 unfold layP
 rw [getD_set' _ _ _ _ _ (by simp; omega)]
 by_cases h : i = slot
 · rw [if_pos h, if_pos h]
 · rw [if_neg h, if_neg h, getD_app]
   by_cases h2 : i < ss.length
   · rw [if_pos h2]
   · rw [if_neg h2]
     rw [List.getD_eq_getElem?_getD, List.getD_eq_getElem?_getD, List.getElem?_eq_none (l := ss) (by omega), List.getElem?_replicate]
     split <;> simp
def zeroP : Int × List (List Int) := (0, [])
def putOk (L : Int) (ss : List (List Int)) (slot : Int) (z : List Int) (lsn : Int) : Bool :=
 okP L ss && decide (0 ≤ slot ∧ slot ≤ 15) && decide (1 ≤ z.length ∧ z.length ≤ 92) && decide (1 ≤ lsn ∧ lsn ≤ 1000000) && okP lsn (layP ss slot.toNat z)
def putP (L : Int) (ss : List (List Int)) (slot : Int) (z : List Int) (lsn : Int) : Int × List (List Int) := if putOk L ss slot z lsn = true then (lsn, layP ss slot.toNat z) else zeroP
theorem lay_end {L : Int} {ss : List (List Int)} (h : okP L ss = true) {slot : Nat} {z : List Int} (hz : 0 < z.length) : 0 < (layP ss slot z).length → 0 < ((layP ss slot z).getD ((layP ss slot z).length - 1) []).length := by
 intro _
 rw [layP_at, layP_length]
 by_cases e : max ss.length (slot + 1) - 1 = slot
 · rw [if_pos e]; exact hz
 · rw [if_neg e]
   have h1 : max ss.length (slot + 1) = ss.length := by omega
   rw [h1]
   exact (okP_of h).e (by omega)
theorem lay_trim {L : Int} {ss : List (List Int)} (h : okP L ss = true) {slot : Nat} {z : List Int} (hz : 0 < z.length) : trimP (layP ss slot z) = layP ss slot z := trimP_ok (lay_end h hz)
end Go.Proofs.YtkfhfjghfadofaaGreat
/- Heaps, plain: what is one, its rows, where bytes would come. No program, no conditions. -/



namespace Go.Proofs.YtkfhfjghfadofaaGreat
open Go.RowKit
set_option maxRecDepth 100000
theorem box1 (w : World) (v : Value) (t : TypeId) : (w.alloc (.cells #[v] t)).cell? ⟨w.heap.size, 0, none⟩ = some v := by
 rw [cell_of_row _ _ _ _ _ _ (heap_alloc_new w _)]; rfl
def slotOk (z : List Int) : Bool := decide (z.length = 0) || (readT z).ok
def okPg (p : Pg) : Bool := okP p.1 p.2 && p.2.all slotOk
def okH (ps : List Pg) : Bool := decide (ps.length ≤ 16) && ps.all okPg
theorem all_at {α : Type} (f : α → Bool) (xs : List α) (d : α) : xs.all f = true ↔ ∀ i, i < xs.length → f (xs.getD i d) = true := by
 rw [List.all_eq_true]
 constructor
 · intro h i hi
   rw [List.getD_eq_getElem?_getD, List.getElem?_eq_getElem hi]
   exact h _ (List.getElem_mem hi)
 · intro h x hx
   obtain ⟨i, hi, e⟩ := List.getElem_of_mem hx
   have := h i hi
   rw [List.getD_eq_getElem?_getD, List.getElem?_eq_getElem hi, Option.getD_some, e] at this
   exact this
theorem okH_long {ps : List Pg} (h : 16 < ps.length) : okH ps = false := by unfold okH; rw [decide_eq_false (by omega)]; rfl
theorem okH_bad {ps : List Pg} {i : Nat} (hi : i < ps.length) (h : okPg (ps.getD i pg0) = false) : okH ps = false := by
 cases e : okH ps with
 | false => rfl
 | true =>
  unfold okH at e
  rw [Bool.and_eq_true] at e
  have := (all_at okPg ps pg0).1 e.2 i hi
  rw [h] at this; cases this
theorem okH_yes {ps : List Pg} (h : ps.length ≤ 16) (ha : ∀ i, i < ps.length → okPg (ps.getD i pg0) = true) : okH ps = true := by
 unfold okH; rw [decide_eq_true h, (all_at okPg ps pg0).2 ha]; rfl
theorem okH_of {ps : List Pg} (h : okH ps = true) : ps.length ≤ 16 ∧ ∀ i, i < ps.length → okPg (ps.getD i pg0) = true := by
 unfold okH at h
 rw [Bool.and_eq_true] at h
 exact ⟨of_decide_eq_true h.1, (all_at okPg ps pg0).1 h.2⟩
theorem okPg_p {A : Int} {ss : List (List Int)} (h : okP A ss = false) : okPg (A, ss) = false := by unfold okPg; simp only; rw [h]; rfl
theorem okPg_bad {A : Int} {ss : List (List Int)} {i : Nat} (hi : i < ss.length) (h : slotOk (ss.getD i []) = false) : okPg (A, ss) = false := by
 cases e : okPg (A, ss) with
 | false => rfl
 | true =>
  unfold okPg at e
  rw [Bool.and_eq_true] at e
  have := (all_at slotOk ss []).1 e.2 i hi
  rw [h] at this; cases this
theorem okPg_yes {A : Int} {ss : List (List Int)} (h : okP A ss = true) (ha : ∀ i, i < ss.length → slotOk (ss.getD i []) = true) : okPg (A, ss) = true := by
 unfold okPg; simp only; rw [h, (all_at slotOk ss []).2 ha]; rfl
theorem okPg_of {p : Pg} (h : okPg p = true) : okP p.1 p.2 = true ∧ ∀ i, i < p.2.length → slotOk (p.2.getD i []) = true := by
 unfold okPg at h
 rw [Bool.and_eq_true] at h
 exact ⟨h.1, (all_at slotOk p.2 []).1 h.2⟩
end Go.Proofs.YtkfhfjghfadofaaGreat
/- The contract of the specification's l7copy: the same page with memory of its own. Conditions: lists of at most 2^20 rows of at most 2^21 bytes. -/

namespace Go.Proofs.YtkfhfjghfadofaaGreat
open Go.RowKit
set_option maxRecDepth 100000
set_option maxHeartbeats 6400000 in
theorem spec_l7copy (L : Int) {a0 : Option Addr} {n : Nat} (c0 : Nat) {ss : List (List Int)} {w : World} (h : ReadsS w a0 ss) (hl : ss.length = n) (hn : n ≤ 1048576) (hb : ∀ i, (ss.getD i []).length ≤ 2097152) :
 Calls Tryz.prog 108 #[.agg #[.int .i64 L, .slice a0 n c0]] w fun e w' => ∃ a1 c1, e = .returned (.agg #[.int .i64 L, .slice a1 n c1]) ∧ OwnP w' w.heap.size w'.heap.size (.slice a1 n c1) ss ∧ Below w.heap.size w w' := by
 obtain ⟨i0, hi, hz0, hz1, hz2⟩ := info_parts Tryz.info22
 obtain ⟨k0', ki, kz0, kz1, kz2⟩ := info_parts Tryz.info5
 obtain ⟨XZ, X1, X2, BW⟩ := three w (.cells #[.int .i64 L, .slice a0 n c0] 87) (.cells #[.int .i64 0, .slice none 0 0] 87) (.cells #[.int .i64 L, .slice none 0 0] 87)
 have X0 : (((w.alloc (.cells #[.int .i64 L, .slice a0 n c0] 87)).alloc (.cells #[.int .i64 0, .slice none 0 0] 87)).alloc (.cells #[.int .i64 L, .slice none 0 0] 87)).heap[w.heap.size]? = some (.cells #[.int .i64 L, .slice a0 n c0] 87) := by
  rw [alloc_old _ _ _ (by simp; omega), alloc_old _ _ _ (by simp)]
  exact heap_alloc_new _ _
 have HSB := hid hb
 have HH := hid h
 clear hb
 go_enter Tryz.func108, Tryz.ntmps108
 go_wp2
 generalize ((w.alloc (.cells #[.int .i64 L, .slice a0 n c0] 87)).alloc (.cells #[.int .i64 0, .slice none 0 0] 87)).alloc (.cells #[.int .i64 L, .slice none 0 0] 87) = W0 at *
 have HX0 := hid X0
 have HX1 := hid X1
 have HX2 := hid X2
 have HBW := hid BW
 have HXZ := hid XZ
 clear X0 X1 X2 BW XZ h
 go_loopw [4] (fun i wr => ∃ (k : Nat) (a : Option Addr) (c : Nat) (xs : List Value), k ≤ n ∧ i = .int .i64 k ∧ xs.length = k ∧ Hid (wr.heap[w.heap.size]? = some (.cells #[.int .i64 L, .slice a0 n c0] 87)) ∧ Hid (wr.heap[w.heap.size + 1]? = some (.cells #[.int .i64 0, .slice none 0 0] 87)) ∧ Hid (wr.heap[w.heap.size + 1 + 1]? = some (.cells #[.int .i64 L, .slice a k c] 87)) ∧ Hid (wr.ownsRow (w.heap.size + 3) 22 1 (.slice a k c) k xs) ∧ Hid (Bands wr (w.heap.size + 3) wr.heap.size xs (ss.take k)) ∧ Hid (Below w.heap.size w wr) ∧ Hid (w.heap.size + 3 ≤ wr.heap.size)) (fun i _ => n - (intOf i).toNat)
 case atStart => exact ⟨0, none, 0, [], Nat.zero_le _, rfl, rfl, HX0, HX1, HX2, hid (World.ownsRow_nil _ _ _ _), hid (by rw [List.take_zero]; exact Bands.nil _ _ _), HBW, hid (by have := HXZ.out; omega)⟩
 case round =>
  obtain ⟨k, a, c, xs, hk, rfl, hx, hr1, hr2, hr3, hown, hB, hnx, hsz⟩ := hrel
  have y0 : wr.cell? ⟨w.heap.size, 1, none⟩ = some (.slice a0 n c0) := by rw [cell_of_row _ _ _ _ _ _ hr1.out]; rfl
  by_cases hlt : k < n
  · have hlt' : (k : Int) < (n : Int) := by omega
    have hk0 : (0 : Int) ≤ (k : Int) := by omega
    have d0 : wr.cell? ⟨w.heap.size + 1 + 1, 1, none⟩ = some (.slice a k c) := by rw [cell_of_row _ _ _ _ _ _ hr3.out]; rfl
    have f0 : wr.frozen? ⟨w.heap.size + 1 + 1, 1, none⟩ = false := frozen_of_row _ _ _ _ _ hr3.out
    rcases HH.out.cells with h0 | ⟨b, off, rfl, hc⟩
    · omega
    obtain ⟨v, hcx0, ax, cx, rfl, hr0, hnil, _⟩ := hc k (by omega)
    have hbl := World.block_lt_of_cell? w _ hcx0
    have hcx : wr.cell? ⟨b, off + k, none⟩ = some (.slice ax (ss.getD k []).length cx) := (hnx.out.cell (by exact hbl)).trans hcx0
    have hr := hr0.below hnx.out (Nat.le_refl _)
    have HT := hid (take_snoc ss k [] (by omega))
    have Hbd := hid hr0.bd
    have hm2 := HSB.out k
    generalize ss.getD k [] = zs at *
    obtain ⟨m, hlen⟩ : ∃ m, zs.length = m := ⟨_, rfl⟩
    rw [hlen] at hcx hr hm2
    have HM := hid hlen
    have HR := hid hr
    have HNI := hid hnil
    have HK' := hid (show ∀ X, Below wr.heap.size wr X → X.cell? ⟨w.heap.size + 1 + 1, 1, none⟩ = some (.slice a k c) ∧ X.frozen? ⟨w.heap.size + 1 + 1, 1, none⟩ = false ∧ X.cell? ⟨w.heap.size, 1, none⟩ = some (.slice (some ⟨b, off, none⟩) n c0) ∧ X.cell? ⟨b, off + k, none⟩ = some (.slice ax m cx) from fun X bb => ⟨(bb.cell (p := ⟨w.heap.size + 1 + 1, 1, none⟩) (by have := hsz.out; show w.heap.size + 1 + 1 < _; omega)).trans d0, (bb.frozen (p := ⟨w.heap.size + 1 + 1, 1, none⟩) (by have := hsz.out; show w.heap.size + 1 + 1 < _; omega)).trans f0, (bb.cell (p := ⟨w.heap.size, 1, none⟩) (by have := hsz.out; show w.heap.size < _; omega)).trans y0, (bb.cell (p := ⟨b, off + k, none⟩) (World.block_lt_of_cell? wr _ hcx)).trans hcx⟩)
    have HNE := hid (show some (w.heap.size + 1 + 1) ≠ (Value.slice a k c).ownBlock from fun e => by have := (hown.out.lt _ e.symm).1; omega)
    have HNE0 := hid (show some w.heap.size ≠ (Value.slice a k c).ownBlock from fun e => by have := (hown.out.lt _ e.symm).1; omega)
    have HNEb := hid (show some b ≠ (Value.slice a k c).ownBlock from fun e => by have := (hown.out.lt _ e.symm).1; have : b < w.heap.size := hbl; omega)
    have H0 := hid (World.ownsRow_lit (base := wr.heap.size) (e := 5) (size := 1) wr #[] 0 (Nat.le_refl _) (Nat.zero_le _) rfl)
    clear hc hcx0 hr0 hlen hbl hr hnil
    go_wp2
    clear hcx y0 d0 f0
    refine region_K 12 (fun W => W.cell? ⟨w.heap.size + 1 + 1, 1, none⟩ = some (.slice a k c) ∧ W.frozen? ⟨w.heap.size + 1 + 1, 1, none⟩ = false ∧ W.cell? ⟨w.heap.size, 1, none⟩ = some (.slice (some ⟨b, off, none⟩) n c0) ∧ W.cell? ⟨b, off + k, none⟩ = some (.slice ax m cx)) (by kernel_rfl) ?_ (fun hHeld => ?_)
    · exact HK'.out _ ((Below.refl _ wr).drew)
    refine anyK_take (i := 0) (v := ?v101) rfl (by kernel_rfl) (by kernel_rfl) (by kernel_rfl) (by kernel_rfl) (fun _ _ _ h => h) (by rfl) hHeld ?hy101 (some 15) (by rfl) ?rest101
    case hy101 => (intro W hSw; (try dsimp only at hSw); go_simp; (try with_reducible rfl))
    try simp only [Act.put]
    try simp only [List.setIfInBounds_toArray]
    try simp only [List.set_cons_succ, List.set_cons_zero]
    refine anyK_take (i := 1) (v := ?v102) rfl (by kernel_rfl) (by kernel_rfl) (by kernel_rfl) (by kernel_rfl) (fun _ _ _ h => h) (by rfl) hHeld ?hy102 (some 16) (by rfl) ?rest102
    case hy102 => (intro W hSw; (try dsimp only at hSw); go_simp; (try with_reducible rfl))
    try simp only [Act.put]
    try simp only [List.setIfInBounds_toArray]
    try simp only [List.set_cons_succ, List.set_cons_zero]
    refine anyK_take (i := 3) (v := ?v103) rfl (by kernel_rfl) (by kernel_rfl) (by kernel_rfl) (by kernel_rfl) (fun _ _ _ h => h) (by rfl) hHeld ?hy103 (some 18) (by rfl) ?rest103
    case hy103 => (intro W hSw; (try dsimp only at hSw); go_simp; (try with_reducible rfl))
    try simp only [Act.put]
    try simp only [List.setIfInBounds_toArray]
    try simp only [List.set_cons_succ, List.set_cons_zero]
    refine anyK_take (i := 4) (v := ?v104) rfl (by kernel_rfl) (by kernel_rfl) (by kernel_rfl) (by kernel_rfl) (fun _ _ _ h => h) (by rfl) hHeld ?hy104 (some 19) (by rfl) ?rest104
    case hy104 => (intro W hSw; (try dsimp only at hSw); go_simp; (try with_reducible rfl))
    try simp only [Act.put]
    try simp only [List.setIfInBounds_toArray]
    try simp only [List.set_cons_succ, List.set_cons_zero]
    refine anyK_take (i := 5) (v := ?v105) rfl (by kernel_rfl) (by kernel_rfl) (by kernel_rfl) (by kernel_rfl) (fun _ _ _ h => h) (by rfl) hHeld ?hy105 (some 20) (by rfl) ?rest105
    case hy105 => (intro W hSw; (try dsimp only at hSw); go_simp; (try with_reducible rfl))
    try simp only [Act.put]
    try simp only [List.setIfInBounds_toArray]
    try simp only [List.set_cons_succ, List.set_cons_zero]
    refine anyK_take (i := 6) (v := ?v106) rfl (by kernel_rfl) (by kernel_rfl) (by kernel_rfl) (by kernel_rfl) (fun _ _ _ h => h) (by rfl) hHeld ?hy106 (some 21) (by rfl) ?rest106
    case hy106 => (intro W hSw; (try dsimp only at hSw); go_simp; (try with_reducible rfl))
    try simp only [Act.put]
    try simp only [List.setIfInBounds_toArray]
    try simp only [List.set_cons_succ, List.set_cons_zero]
    refine anyK_take (i := 7) (v := ?v107) rfl (by kernel_rfl) (by kernel_rfl) (by kernel_rfl) (by kernel_rfl) (fun _ _ _ h => h) (by rfl) hHeld ?hy107 (some 22) (by rfl) ?rest107
    case hy107 => (intro W hSw; (try dsimp only at hSw); go_simp; (try with_reducible rfl))
    try simp only [Act.put]
    try simp only [List.setIfInBounds_toArray]
    try simp only [List.set_cons_succ, List.set_cons_zero]
    refine anyK_step (i := 2) (by kernel_rfl) rfl (fun K hK => ?_)
    go_simp
    refine hK.out _ _ ?_ (fun hH2 => ?_)
    · exact HK'.out _ ((bel_al (Below.refl _ wr) _).drew)
    clear hK K hHeld
    have hHeld := hH2
    clear hH2
    try simp only [Act.put]
    try simp only [List.setIfInBounds_toArray]
    try simp only [List.set_cons_succ, List.set_cons_zero]
    refine anyK_step (i := 8) (by kernel_rfl) rfl (fun K hK => ?_)
    refine step_append_row (by rfl) _ _ _ (by rfl) wr.heap.size 5 k0' (.int .u8 0) 1 1 Tryz.underlying22 ki kz0 kz1 kz2 rfl (by omega) (.slice (some ⟨wr.heap.size, 0, none⟩) 0 0) 0 [] (by rfl) (by simpa using H0.out.drew) ax m cx (bys zs) (by rfl) (by rw [bys_length, HM.out, Nat.mul_one]) ((HR.out.below (bel_al (Below.refl _ wr) _).drew (Nat.le_refl _)).news' HNI.out) HR.out.nil0 (bys_one _) (by unfold maxLen; omega) (by omega) (by simp) ?_
    intro av cv u hob hgb
    rw [Nat.zero_add, List.nil_append] at hob
    have bu := ((bel_al (Below.refl wr.heap.size wr) (.cells #[] 5)).drew).grown hgb (by simp) (fun q hq => by cases hq; exact Nat.le_refl _)
    have HO1 := hid hob
    have HBU := hid bu
    clear hob hgb bu
    simp only [Nat.zero_add]
    refine hK.out _ _ ?_ (fun hH2 => ?_)
    · exact HK'.out _ HBU.out
    clear hK K hHeld
    have hHeld := hH2
    clear hH2
    try simp only [Act.put]
    try simp only [List.setIfInBounds_toArray]
    try simp only [List.set_cons_succ, List.set_cons_zero]
    refine anyK_step (i := 9) (by kernel_rfl) rfl (fun K hK => ?_)
    go_simp
    refine hK.out _ _ ?_ (fun hH2 => ?_)
    · exact HK'.out _ (bel_al HBU.out _)
    clear hK K hHeld
    have hHeld := hH2
    clear hH2
    try simp only [Act.put]
    try simp only [List.setIfInBounds_toArray]
    try simp only [List.set_cons_succ, List.set_cons_zero]
    refine anyK_step (i := 10) (by kernel_rfl) rfl (fun K hK => ?_)
    refine step_append_row (by rfl) _ _ _ (by rfl) (w.heap.size + 3) 22 i0 (.slice none 0 0) 1 24 Tryz.underlying85 hi hz0 hz1 hz2 rfl (by omega) (.slice a k c) k xs (by rfl) (owns_below (bel_al HBU.out _) (Nat.le_refl _) hown.out) (some ⟨u.heap.size, 0, none⟩) 1 1 [.slice av m cv] (by rfl) rfl (.inr ⟨_, rfl, World.news_of_block (heap_alloc_new u _)⟩) (fun e => by cases e) (by simp [Value.oneCell']) (by unfold maxLen; omega) (by omega) (by have := hsz.out; have := HBU.out.size; simp; omega) ?_
    intro g' cap w1 hown1 hgrow
    obtain ⟨s1, s2, s3, s4⟩ := HK'.out _ (bel_al HBU.out (.cells #[.slice av m cv] 22))
    have k0 := hgrow.cell s1 HNE.out
    have k1 := (hgrow.frozen_far ⟨w.heap.size + 1 + 1, 1, none⟩ (by have := hsz.out; have := HBU.out.size; simp; omega) HNE.out).trans s2
    have k2 := hgrow.cell s3 HNE0.out
    have k3 := hgrow.cell s4 HNEb.out
    clear s1 s2 s3 s4
    refine hK.out _ _ ?_ (fun hH2 => ?_)
    · exact ⟨k0, k1, k2, k3⟩
    clear hK K hHeld
    have hHeld := hH2
    clear hH2
    try simp only [Act.put]
    try simp only [List.setIfInBounds_toArray]
    try simp only [List.set_cons_succ, List.set_cons_zero]
    refine anyK_take (i := 11) (v := ?v112) rfl (by kernel_rfl) (by kernel_rfl) (by kernel_rfl) (by kernel_rfl) (fun _ _ _ h => h) (by rfl) hHeld ?hy112 (some 26) (by rfl) ?rest112
    case hy112 => (intro W hSw; (try dsimp only at hSw); go_simp; (try with_reducible rfl))
    try simp only [Act.put]
    try simp only [List.setIfInBounds_toArray]
    try simp only [List.set_cons_succ, List.set_cons_zero]
    refine anyK_last (by kernel_rfl) rfl (fun K hK => ?_)
    go_simp
    refine hK.out _ _ ?_
    clear hK K hHeld
    refine anyK_done (by kernel_rfl) ?_ _
    have bX := bel_al HBU.out (.cells #[.slice av m cv] 22)
    have hB1 := hB.out.grow hsz.out bX (by rw [HM.out]; exact HO1.out.alloc _) Hbd.out (owns_below bX (Nat.le_refl _) hown.out) (by decide) hgrow
    rw [← HT.out] at hB1
    have V1 : w1.heap[w.heap.size]? = _ := (hgrow.block w.heap.size (by have := bX.size; have := hsz.out; omega) HNE0.out).trans ((bX.block w.heap.size (by have := hsz.out; omega)).trans hr1.out)
    have V2 : w1.heap[w.heap.size + 1]? = _ := (hgrow.block (w.heap.size + 1) (by have := bX.size; have := hsz.out; omega) (fun e => by have := (hown.out.lt _ e.symm).1; omega)).trans ((bX.block (w.heap.size + 1) (by have := hsz.out; omega)).trans hr2.out)
    have V3 : w1.heap[w.heap.size + 1 + 1]? = _ := (hgrow.block (w.heap.size + 1 + 1) (by have := bX.size; have := hsz.out; omega) HNE.out).trans ((bX.block (w.heap.size + 1 + 1) (by have := hsz.out; omega)).trans hr3.out)
    have U1 := hid ((heap_set_ne w1 (w.heap.size + 1 + 1) 1 w.heap.size (.slice g' (k + 1) cap) (by omega)).trans V1)
    have U2 := hid ((heap_set_ne w1 (w.heap.size + 1 + 1) 1 (w.heap.size + 1) (.slice g' (k + 1) cap) (by omega)).trans V2)
    have U3 := hid (heap_setCell_same w1 (w.heap.size + 1 + 1) 1 _ 87 (.slice g' (k + 1) cap) V3)
    have ag : Agree (w.heap.size + 3) w1.heap.size w1 (w1.setCell ⟨w.heap.size + 1 + 1, 1, none⟩ (.slice g' (k + 1) cap)) := fun q h1 _ => heap_set_ne _ _ _ _ _ (by omega)
    have HO := hid (owns_agree hown1 ag (fun q hq => hown1.lt q hq))
    have HBs := hid (hB1.agree ag)
    have HBl := hid (((hnx.out.trans (bX.mono hnx.out.size)).grown hgrow (Nat.le_trans hnx.out.size bX.size) (fun q hq => by have := (hown.out.lt q hq).1; omega)).setCell (p := ⟨w.heap.size + 1 + 1, 1, none⟩) (by simp; omega) (.slice g' (k + 1) cap))
    have HSz := hid (show w.heap.size + 3 ≤ w1.heap.size by have := hsz.out; have := bX.size; have := hgrow.size; omega)
    clear bX hB1 V1 V2 V3 ag hown1 hgrow k0 k1 k2 k3 hr1 hr2 hr3 hown hB hnx hsz HK' HNE HNE0 HNEb HBU HO1 HR H0
    go_wp2
    go_roundw
    case rel => exact ⟨k + 1, g', cap, xs ++ [.slice av m cv], by omega, by go_num, by simp [hx], U1, U2, U3, HO, hid (by simpa using HBs.out), HBl, hid (by simpa using HSz.out)⟩
    case measure => simp [intOf]; omega
  · have hlt' : ¬ (k : Int) < (n : Int) := by omega
    obtain rfl : k = n := by omega
    have hBs := hB.out
    rw [List.take_of_length_le (by omega)] at hBs
    have OW := hid (show OwnP wr (w.heap.size + 3) wr.heap.size (.slice a k c) ss from ⟨⟨xs, by rw [hl]; exact hown.out, hBs⟩, fun g hg => (hown.out.lt g hg).2⟩)
    clear hB hBs hown
    go_wp2_with (first
     | (refine wpList_load_row rfl 87 (.tmp 3) rfl (w.heap.size + 1 + 1) rfl 87 _ (0, 0) _ hr3.out Tryz.underlying87 rfl size_pg ?_)
     | (refine wpList_store_row rfl 87 (.tmp 2) (.tmp 27) rfl (w.heap.size + 1) #[.int .i64 L, .slice a k c] rfl rfl 87 _ hr2.out ?s1 ?s2 ?s3 ?_))
    case s1 => simpa using size_pg
    case s3 => simp [Value.oneCell']
    have hz := hsz.out
    refine bodyPost_ret (results_cell_row Tryz.results108 _ _ (w.heap.size + 1) 87 #[.int .i64 L, .slice a k c] (0, 0) _ rfl (setRow_heap _ _ _ _ _ _ hr2.out) Tryz.underlying87 rfl size_pg) rfl ⟨a, c, rfl, ((OW.out.agree fun q h1 h2 => ?_).mono (by omega) (by simp)), below_setRow hnx.out (by omega) _⟩
    rw [setRow_other _ _ _ _ (by omega)]
end Go.Proofs.YtkfhfjghfadofaaGreat
/- The contract of the specification's copy of a heap. Conditions: the heap is one. -/




namespace Go.Proofs.YtkfhfjghfadofaaGreat
open Go.RowKit
set_option maxRecDepth 100000
theorem size_hp : (Tryz.prog.info? 26).map (·.size) = some 1 := by kernel_rfl
theorem op_alloc {w : World} {lo hi : Nat} {v : Value} {ss : List (List Int)} (h : OwnP w lo hi v ss) (o : Obj) (hh : hi ≤ w.heap.size := by exact Nat.le_refl _) : OwnP (w.alloc o) lo hi v ss := h.agree (Agree.below (Below.alloc1 w o) hh)
set_option maxHeartbeats 12800000 in
theorem spec_l10copy {ad : Option Addr} {n : Nat} (cap : Nat) {ps : List Pg} {w : World} (h : ReadsG w ad ps) (hl : ps.length = n) (hok : okH ps = true) :
 Calls Tryz.prog 56 #[.agg #[.slice ad n cap]] w fun e w' => ∃ a c, e = .returned (.agg #[.slice a n c]) ∧ OwnG w' w.heap.size w'.heap.size (.slice a n c) ps ∧ Below w.heap.size w w' := by
 obtain ⟨i0, hi, hz0, hz1, hz2⟩ := info_parts Tryz.infoPg
 have z1 := alloc_size w (.cells #[.slice ad n cap] 26)
 have z2 := alloc_size (w.alloc (.cells #[.slice ad n cap] 26)) (.cells #[.slice none 0 0] 26)
 have z3 := alloc_size ((w.alloc (.cells #[.slice ad n cap] 26)).alloc (.cells #[.slice none 0 0] 26)) (.cells #[.slice none 0 0] 26)
 have R0 : (((w.alloc (.cells #[.slice ad n cap] 26)).alloc (.cells #[.slice none 0 0] 26)).alloc (.cells #[.slice none 0 0] 26)).heap[w.heap.size]? = some (.cells #[.slice ad n cap] 26) := by
  rw [alloc_old _ _ _ (by omega), alloc_old _ _ _ (by omega)]; exact heap_alloc_new _ _
 have R1 : (((w.alloc (.cells #[.slice ad n cap] 26)).alloc (.cells #[.slice none 0 0] 26)).alloc (.cells #[.slice none 0 0] 26)).heap[w.heap.size + 1]? = some (.cells #[.slice none 0 0] 26) := by
  rw [alloc_old _ _ _ (by omega)]
  have := heap_alloc_new (w.alloc (.cells #[.slice ad n cap] 26)) (.cells #[.slice none 0 0] 26)
  rwa [z1] at this
 have R2 : (((w.alloc (.cells #[.slice ad n cap] 26)).alloc (.cells #[.slice none 0 0] 26)).alloc (.cells #[.slice none 0 0] 26)).heap[w.heap.size + 1 + 1]? = some (.cells #[.slice none 0 0] 26) := by
  have := heap_alloc_new ((w.alloc (.cells #[.slice ad n cap] 26)).alloc (.cells #[.slice none 0 0] 26)) (.cells #[.slice none 0 0] 26)
  rwa [z2, z1] at this
 have BW : Below w.heap.size w (((w.alloc (.cells #[.slice ad n cap] 26)).alloc (.cells #[.slice none 0 0] 26)).alloc (.cells #[.slice none 0 0] 26)) := (((Below.refl _ w).alloc (Nat.le_refl _) _).alloc (by omega) _).alloc (by omega) _
 have HZ := hid (show (((w.alloc (.cells #[.slice ad n cap] 26)).alloc (.cells #[.slice none 0 0] 26)).alloc (.cells #[.slice none 0 0] 26)).heap.size = w.heap.size + 3 by omega)
 have HX0 := hid R0
 have HX1 := hid R1
 have HX2 := hid R2
 have HBW := hid BW
 have HH := hid h
 have HO := hid hok
 have hn16 : n ≤ 16 := by have := (okH_of hok).1; omega
 clear R0 R1 R2 BW z1 z2 z3 h hok
 go_enter Tryz.func56, Tryz.ntmps56
 go_wp2
 generalize ((w.alloc (.cells #[.slice ad n cap] 26)).alloc (.cells #[.slice none 0 0] 26)).alloc (.cells #[.slice none 0 0] 26) = W0 at *
 go_loopw [4] (fun i wr => ∃ (k : Nat) (a : Option Addr) (c : Nat), k ≤ n ∧ i = .int .i64 k ∧ Hid (wr.heap[w.heap.size]? = some (.cells #[.slice ad n cap] 26)) ∧ Hid (wr.heap[w.heap.size + 1]? = some (.cells #[.slice none 0 0] 26)) ∧ Hid (wr.heap[w.heap.size + 1 + 1]? = some (.cells #[.slice a k c] 26)) ∧ Hid (OwnG wr (w.heap.size + 3) wr.heap.size (.slice a k c) (ps.take k)) ∧ Hid (Below w.heap.size w wr) ∧ Hid (w.heap.size + 3 ≤ wr.heap.size)) (fun i _ => n - (intOf i).toNat)
 case atStart => exact ⟨0, none, 0, Nat.zero_le _, rfl, HX0, HX1, HX2, hid (by rw [List.take_zero]; exact OwnG.nil _ _ _), HBW, hid (by have := HZ.out; omega)⟩
 case round =>
  obtain ⟨k, a, c, hk, rfl, hr1, hr2, hr3, hown, hnx, hsz⟩ := hrel
  have y0 : wr.cell? ⟨w.heap.size, 0, none⟩ = some (.slice ad n cap) := by rw [cell_of_row _ _ _ _ _ _ hr1.out]; rfl
  by_cases hlt : k < n
  · have hlt' : (k : Int) < (n : Int) := by omega
    have hk0 : (0 : Int) ≤ (k : Int) := by omega
    have d0 : wr.cell? ⟨w.heap.size + 1 + 1, 0, none⟩ = some (.slice a k c) := by rw [cell_of_row _ _ _ _ _ _ hr3.out]; rfl
    have f0 : wr.frozen? ⟨w.heap.size + 1 + 1, 0, none⟩ = false := frozen_of_row _ _ _ _ _ hr3.out
    obtain ⟨b, off, ap, cp, rfl, hca0, hcx0, hr0, hmx⟩ := HH.out.at (k := k) (by omega)
    have hpg := okPg_of ((okH_of HO.out).2 k (by omega))
    have h16 := (okP_of hpg.1).n
    have hz92 := (okP_of hpg.1).z
    have hbl := World.block_lt_of_cell? w _ hca0
    have hca := (hnx.out.cell (p := ⟨b, off + k * 2, none⟩) hbl).trans hca0
    have hcx := (hnx.out.cell (p := ⟨b, off + k * 2 + 1, none⟩) hbl).trans hcx0
    have HT := hid (take_snocG ps k (by omega))
    have hrp := hr0.below hnx.out (Nat.le_refl _)
    have hlk : (ps.take k).length = k := by rw [List.length_take]; omega
    generalize ps.getD k pg0 = p at *
    obtain ⟨A, ss⟩ := p
    obtain ⟨m, hm⟩ : ∃ m, ss.length = m := ⟨_, rfl⟩
    dsimp only at hcx hca hrp hz92 h16
    rw [hm] at hcx h16
    have HM := hid hm
    have HZ92 := hid hz92
    have HRP := hid hrp
    have HLK := hid hlk
    have HK' := hid (show ∀ X, Below wr.heap.size wr X → X.cell? ⟨w.heap.size + 1 + 1, 0, none⟩ = some (.slice a k c) ∧ X.frozen? ⟨w.heap.size + 1 + 1, 0, none⟩ = false ∧ X.cell? ⟨w.heap.size, 0, none⟩ = some (.slice (some ⟨b, off, none⟩) n cap) ∧ X.cell? ⟨b, off + k * 2, none⟩ = some (.int .i64 A) ∧ X.cell? ⟨b, off + k * 2 + 1, none⟩ = some (.slice ap m cp) from fun X bb => ⟨(bb.cell (p := ⟨w.heap.size + 1 + 1, 0, none⟩) (World.block_lt_of_cell? wr _ d0)).trans d0, (bb.frozen (p := ⟨w.heap.size + 1 + 1, 0, none⟩) (World.block_lt_of_cell? wr _ d0)).trans f0, (bb.cell (p := ⟨w.heap.size, 0, none⟩) (World.block_lt_of_cell? wr _ y0)).trans y0, (bb.cell (p := ⟨b, off + k * 2, none⟩) (World.block_lt_of_cell? wr _ hca)).trans hca, (bb.cell (p := ⟨b, off + k * 2 + 1, none⟩) (World.block_lt_of_cell? wr _ hcx)).trans hcx⟩)
    have HNE := hid (show ∀ q, q < w.heap.size + 3 → some q ≠ (Value.slice a k c).ownBlock from fun q hq e => by obtain ⟨ys, bs, ow, _⟩ := hown.out.own; have := (ow.lt _ e.symm).1; omega)
    have HBLT := hid (show b < w.heap.size from hbl)
    clear hca0 hcx0 hr0 hmx hm hbl hpg hz92 hrp hlk
    go_wp2
    clear hca hcx y0 d0 f0
    have BD := hid ((Still.drew wr).below wr.heap.size)
    refine region_K 11 (fun W => W.cell? ⟨w.heap.size + 1 + 1, 0, none⟩ = some (.slice a k c) ∧ W.frozen? ⟨w.heap.size + 1 + 1, 0, none⟩ = false ∧ W.cell? ⟨w.heap.size, 0, none⟩ = some (.slice (some ⟨b, off, none⟩) n cap) ∧ W.cell? ⟨b, off + k * 2, none⟩ = some (.int .i64 A) ∧ W.cell? ⟨b, off + k * 2 + 1, none⟩ = some (.slice ap m cp)) (by kernel_rfl) ?_ (fun hHeld => ?_)
    · exact HK'.out _ BD.out
    generalize wr.drew = v0 at *
    refine anyK_take (i := 0) (v := ?v1) rfl (by kernel_rfl) (by kernel_rfl) (by kernel_rfl) (by kernel_rfl) (fun _ _ _ h => h) (by rfl) hHeld ?hy1 (some 12) (by rfl) ?rest1
    case hy1 => (intro W hSw; obtain ⟨r0, r1, r2, r3, r4⟩ := hSw; go_simp; (try with_reducible rfl))
    try simp only [Act.put]
    try simp only [List.setIfInBounds_toArray]
    try simp only [List.set_cons_succ, List.set_cons_zero]
    refine anyK_take (i := 1) (v := ?v2) rfl (by kernel_rfl) (by kernel_rfl) (by kernel_rfl) (by kernel_rfl) (fun _ _ _ h => h) (by rfl) hHeld ?hy2 (some 13) (by rfl) ?rest2
    case hy2 => (intro W hSw; obtain ⟨r0, r1, r2, r3, r4⟩ := hSw; go_simp; (try with_reducible rfl))
    try simp only [Act.put]
    try simp only [List.setIfInBounds_toArray]
    try simp only [List.set_cons_succ, List.set_cons_zero]
    refine anyK_take (i := 2) (v := ?v3) rfl (by kernel_rfl) (by kernel_rfl) (by kernel_rfl) (by kernel_rfl) (fun _ _ _ h => h) (by rfl) hHeld ?hy3 (some 14) (by rfl) ?rest3
    case hy3 => (intro W hSw; obtain ⟨r0, r1, r2, r3, r4⟩ := hSw; go_simp; (try with_reducible rfl))
    try simp only [Act.put]
    try simp only [List.setIfInBounds_toArray]
    try simp only [List.set_cons_succ, List.set_cons_zero]
    refine anyK_take (i := 3) (v := ?v4) rfl (by kernel_rfl) (by kernel_rfl) (by kernel_rfl) (by kernel_rfl) (fun _ _ _ h => h) (by rfl) hHeld ?hy4 (some 15) (by rfl) ?rest4
    case hy4 => (intro W hSw; obtain ⟨r0, r1, r2, r3, r4⟩ := hSw; go_simp; (try with_reducible rfl))
    try simp only [Act.put]
    try simp only [List.setIfInBounds_toArray]
    try simp only [List.set_cons_succ, List.set_cons_zero]
    refine anyK_take (i := 4) (v := ?v5) rfl (by kernel_rfl) (by kernel_rfl) (by kernel_rfl) (by kernel_rfl) (fun _ _ _ h => h) (by rfl) hHeld ?hy5 (some 16) (by rfl) ?rest5
    case hy5 => (intro W hSw; obtain ⟨r0, r1, r2, r3, r4⟩ := hSw; go_simp; (try with_reducible rfl))
    try simp only [Act.put]
    try simp only [List.setIfInBounds_toArray]
    try simp only [List.set_cons_succ, List.set_cons_zero]
    refine anyK_take (i := 5) (v := ?v6) rfl (by kernel_rfl) (by kernel_rfl) (by kernel_rfl) (by kernel_rfl) (fun _ _ _ h => h) (by rfl) hHeld ?hy6 (some 17) (by rfl) ?rest6
    case hy6 => (intro W hSw; obtain ⟨r0, r1, r2, r3, r4⟩ := hSw; go_simp; (try with_reducible rfl))
    try simp only [Act.put]
    try simp only [List.setIfInBounds_toArray]
    try simp only [List.set_cons_succ, List.set_cons_zero]
    refine anyK_take (i := 6) (v := ?v7) rfl (by kernel_rfl) (by kernel_rfl) (by kernel_rfl) (by kernel_rfl) (fun _ _ _ h => h) (by rfl) hHeld ?hy7 (some 18) (by rfl) ?rest7
    case hy7 => (intro W hSw; obtain ⟨r0, r1, r2, r3, r4⟩ := hSw; go_simp; (try with_reducible rfl))
    try simp only [Act.put]
    try simp only [List.setIfInBounds_toArray]
    try simp only [List.set_cons_succ, List.set_cons_zero]
    refine anyK_step (i := 7) (by kernel_rfl) rfl (fun KP hK => ?_)
    go_simp
    refine (spec_l7copy A cp (HRP.out.below BD.out (Nat.le_refl _)).rd HM.out (by omega) (fun i => by have := HZ92.out i; omega)).mono ?_
    rintro e u ⟨a1, c1, rfl, op, bu⟩
    have BU := hid (BD.out.trans (bu.mono BD.out.size))
    have OP := hid op
    have SZ := hid (show wr.heap.size ≤ v0.heap.size from BD.out.size)
    clear bu op
    go_wp2_with fail
    refine hK.out _ _ ?_ (fun hH2 => ?_)
    · exact HK'.out _ BU.out
    clear hK KP hHeld
    have hHeld := hH2
    clear hH2
    try simp only [Act.put]
    try simp only [List.setIfInBounds_toArray]
    try simp only [List.set_cons_succ, List.set_cons_zero]
    refine anyK_step (i := 8) (by kernel_rfl) rfl (fun KP hK => ?_)
    go_simp
    refine hK.out _ _ ?_ (fun hH2 => ?_)
    · exact HK'.out _ (BU.out.trans ((Below.alloc1 u _).mono BU.out.size))
    clear hK KP hHeld
    have hHeld := hH2
    clear hH2
    try simp only [Act.put]
    try simp only [List.setIfInBounds_toArray]
    try simp only [List.set_cons_succ, List.set_cons_zero]
    have bX := Below.alloc1 u (.cells #[.int .i64 A, .slice a1 m c1] 87)
    have BX := hid (BU.out.trans (bX.mono BU.out.size))
    have ZX := hid (alloc_size u (.cells #[.int .i64 A, .slice a1 m c1] 87))
    have hOG := hown.out.below BX.out (Nat.le_refl _)
    obtain ⟨ys, bs, ow, hBd, hq⟩ := hOG.own
    have hTop := hOG.top
    rw [HLK.out] at ow
    have OW := hid ow
    have HBd := hid hBd
    have HQ := hid hq
    have HTop := hid hTop
    have OPX := hid (op_alloc OP.out (.cells #[.int .i64 A, .slice a1 m c1] 87))
    clear bX hOG ow hBd hq hTop
    refine anyK_step (i := 9) (by kernel_rfl) rfl (fun KP hK => ?_)
    refine step_append_at (by rfl) _ _ _ (by rfl) (w.heap.size + 3) 87 i0 _ 2 32 Tryz.underlying24 hi hz0 hz1 hz2 rfl (by omega) (.slice a k c) k _ (by rfl) OW.out ⟨u.heap.size, 0, none⟩ 1 1 [.int .i64 A, .slice a1 m c1] (by rfl) rfl ?n1 ?n2 (by unfold maxLen; omega) (by omega) ?n3 ?_
    case n1 => exact World.news_of_block (heap_alloc_new u (.cells #[.int .i64 A, .slice a1 m c1] 87))
    case n2 => intro q hq; simp only [List.mem_cons, List.not_mem_nil, or_false] at hq; rcases hq with rfl | rfl <;> rfl
    case n3 => have := hsz.out; have := BX.out.size; omega
    intro g' c' w1 hown1 hgrow hpl
    obtain ⟨s1, s2, s3, s4, s5⟩ := HK'.out _ BX.out
    have k0 := hgrow.cell s1 (HNE.out (w.heap.size + 1 + 1) (by omega))
    have k1 := (hgrow.frozen_far ⟨w.heap.size + 1 + 1, 0, none⟩ (by have := hsz.out; have := BX.out.size; show w.heap.size + 1 + 1 < _; omega) (HNE.out (w.heap.size + 1 + 1) (by omega))).trans s2
    have k2 := hgrow.cell s3 (HNE.out w.heap.size (by omega))
    have k3 := hgrow.cell s4 (HNE.out b (by have := HBLT.out; omega))
    have k4 := hgrow.cell s5 (HNE.out b (by have := HBLT.out; omega))
    clear s1 s2 s3 s4 s5
    have OG1 := hid (OwnG.push (A := A) HLK.out OW.out HBd.out HQ.out HTop.out hsz.out SZ.out (Nat.le_refl _) (by have := BX.out.size; omega) (OPX.out.mono (Nat.le_refl _) (by have := ZX.out; omega)) hown1 hgrow hpl)
    have HG := hid hgrow
    refine hK.out _ _ ?_ (fun hH2 => ?_)
    · exact ⟨k0, k1, k2, k3, k4⟩
    clear hK KP hHeld
    have hHeld := hH2
    clear hH2
    try simp only [Act.put]
    try simp only [List.setIfInBounds_toArray]
    try simp only [List.set_cons_succ, List.set_cons_zero]
    refine anyK_take (i := 10) (v := ?v8) rfl (by kernel_rfl) (by kernel_rfl) (by kernel_rfl) (by kernel_rfl) (fun _ _ _ h => h) (by rfl) hHeld ?hy8 (some 22) (by rfl) ?rest8
    case hy8 => (intro W hSw; obtain ⟨r0, r1, r2, r3, r4⟩ := hSw; go_simp; (try with_reducible rfl))
    try simp only [Act.put]
    try simp only [List.setIfInBounds_toArray]
    try simp only [List.set_cons_succ, List.set_cons_zero]
    refine anyK_last (by kernel_rfl) rfl (fun KP hK => ?_)
    go_simp
    refine hK.out _ _ ?_
    clear hK KP hHeld
    refine anyK_done (by kernel_rfl) ?_ _
    have hgrow := HG.out
    have hzz := hsz.out
    have hbz := BX.out.size
    have V1 : w1.heap[w.heap.size]? = _ := (hgrow.block w.heap.size (by omega) (HNE.out _ (by omega))).trans ((BX.out.block w.heap.size (by omega)).trans hr1.out)
    have V2 : w1.heap[w.heap.size + 1]? = _ := (hgrow.block (w.heap.size + 1) (by omega) (HNE.out _ (by omega))).trans ((BX.out.block (w.heap.size + 1) (by omega)).trans hr2.out)
    have V3 : w1.heap[w.heap.size + 1 + 1]? = _ := (hgrow.block (w.heap.size + 1 + 1) (by omega) (HNE.out _ (by omega))).trans ((BX.out.block (w.heap.size + 1 + 1) (by omega)).trans hr3.out)
    have U1 := hid ((heap_set_ne w1 (w.heap.size + 1 + 1) 0 w.heap.size (.slice g' (k + 1) c') (by omega)).trans V1)
    have U2 := hid ((heap_set_ne w1 (w.heap.size + 1 + 1) 0 (w.heap.size + 1) (.slice g' (k + 1) c') (by omega)).trans V2)
    have U3 := hid (heap_setCell_same w1 (w.heap.size + 1 + 1) 0 _ 26 (.slice g' (k + 1) c') V3)
    have ag : Agree (w.heap.size + 3) w1.heap.size w1 (w1.setCell ⟨w.heap.size + 1 + 1, 0, none⟩ (.slice g' (k + 1) c')) := fun q h1 _ => heap_set_ne _ _ _ _ _ (by omega)
    have HOG := hid (OG1.out.agree ag)
    have HBl := hid (((hnx.out.trans (BX.out.mono hnx.out.size)).grown hgrow (Nat.le_trans hnx.out.size BX.out.size) (fun q hq => Nat.le_of_not_lt (fun e => HNE.out q (by omega) hq.symm))).setCell (p := ⟨w.heap.size + 1 + 1, 0, none⟩) (by simp; omega) (.slice g' (k + 1) c'))
    have HSz := hid (show w.heap.size + 3 ≤ w1.heap.size by have := hgrow.size; omega)
    clear V1 V2 V3 ag hown1 hgrow hpl k0 k1 k2 k3 k4 hr1 hr2 hr3 hown hnx hsz HK' HNE HG OG1 OW HBd HQ HTop OPX BX BU hzz hbz
    go_wp2
    go_roundw
    case rel => exact ⟨k + 1, g', c', by omega, by go_num, U1, U2, U3, hid (by rw [HT.out]; simpa using HOG.out), HBl, hid (by simpa using HSz.out)⟩
    case measure => simp [intOf]; omega
  · have hlt' : ¬ (k : Int) < (n : Int) := by omega
    obtain rfl : k = n := by omega
    have OW := hid (show OwnG wr (w.heap.size + 3) wr.heap.size (.slice a k c) ps by have := hown.out; rwa [List.take_of_length_le (by omega)] at this)
    have d0 : wr.cell? ⟨w.heap.size + 1 + 1, 0, none⟩ = some (.slice a k c) := by rw [cell_of_row _ _ _ _ _ _ hr3.out]; rfl
    clear hown
    go_wp2_with (refine wpList_store_row rfl 26 (.tmp 2) (.tmp 23) rfl (w.heap.size + 1) #[.slice a k c] rfl rfl 26 _ hr2.out ?s1 ?s2 ?s3 ?_)
    case s1 => simpa using size_hp
    case s3 => simp [Value.oneCell']
    have hz := hsz.out
    refine bodyPost_ret (results_cell_row Tryz.results56 _ _ (w.heap.size + 1) 26 #[.slice a k c] (0, 0) _ rfl (setRow_heap _ _ _ _ _ _ hr2.out) Tryz.underlying26 rfl size_hp) rfl ⟨a, c, rfl, ((OW.out.agree fun q h1 h2 => ?_).mono (by omega) (by simp)), below_setRow hnx.out (by omega) _⟩
    rw [setRow_other _ _ _ _ (by omega)]
end Go.Proofs.YtkfhfjghfadofaaGreat
/- The contracts of both PageUsed, of l5in, within, isPage, endsFree and of the library's IndexFunc and ContainsFunc over slots. Conditions: lists of at most 2^47 bytes. -/


namespace Go.Proofs.YtkfhfjghfadofaaGreat
open Go.RowKit
set_option maxRecDepth 100000
theorem spec_inP (n lo hi : Int) (w : World) : Calls Tryz.prog 55 #[.int .i64 n, .int .i64 lo, .int .i64 hi] w fun e w' => e = .returned (.bool (decide (lo ≤ n ∧ n ≤ hi))) ∧ w' = w := by
 by_cases h1 : lo ≤ n
 · by_cases h2 : n ≤ hi
   · rw [decide_eq_true ⟨h1, h2⟩]
     go_enter Tryz.func55, Tryz.ntmps55
     go_wp2
     go_ret
     exact ⟨rfl, rfl⟩
   · rw [decide_eq_false (by omega)]
     go_enter Tryz.func55, Tryz.ntmps55
     go_wp2
     go_ret
     exact ⟨rfl, rfl⟩
 · rw [decide_eq_false (by omega)]
   go_enter Tryz.func55, Tryz.ntmps55
   go_wp2
   go_ret
   exact ⟨rfl, rfl⟩
theorem impl_inP (n lo hi : Int) (w : World) : Calls Tryz.prog 52 #[.int .i64 n, .int .i64 lo, .int .i64 hi] w fun e w' => e = .returned (.bool (decide (lo ≤ n ∧ n ≤ hi))) ∧ w' = w := by
 by_cases h1 : lo ≤ n
 · by_cases h2 : n ≤ hi
   · rw [decide_eq_true ⟨h1, h2⟩]
     go_enter Tryz.func52, Tryz.ntmps52
     go_wp2
     go_ret
     exact ⟨rfl, rfl⟩
   · rw [decide_eq_false (by omega)]
     go_enter Tryz.func52, Tryz.ntmps52
     go_wp2
     go_ret
     exact ⟨rfl, rfl⟩
 · rw [decide_eq_false (by omega)]
   go_enter Tryz.func52, Tryz.ntmps52
   go_wp2
   go_ret
   exact ⟨rfl, rfl⟩
theorem impl_isFree (a : Option Addr) (n c : Nat) (w : World) : Calls Tryz.prog 123 #[.slice a n c] w fun e w' => e = .returned (.bool (decide (n = 0))) ∧ w' = w := by
 by_cases h : n = 0
 · subst h
   go_enter Tryz.func123, Tryz.ntmps123
   go_wp2
   go_ret
   exact ⟨rfl, rfl⟩
 · have q : ((n : Int) == 0) = false := by simpa using h
   rw [decide_eq_false h]
   go_enter Tryz.func123, Tryz.ntmps123
   go_wp2
   go_ret
   exact ⟨rfl, rfl⟩
theorem impl_isTooLong (a : Option Addr) (n c : Nat) (w : World) : Calls Tryz.prog 146 #[.slice a n c] w fun e w' => e = .returned (.bool (decide (92 < n))) ∧ w' = w := by
 by_cases h : 92 < n
 · have q : (92 : Int) < (n : Int) := by omega
   rw [decide_eq_true h]
   go_enter Tryz.func146, Tryz.ntmps146
   go_wp2
   go_ret
   exact ⟨rfl, rfl⟩
 · have q : ¬ (92 : Int) < (n : Int) := by omega
   rw [decide_eq_false h]
   go_enter Tryz.func146, Tryz.ntmps146
   go_wp2
   go_ret
   exact ⟨rfl, rfl⟩
theorem okP_L {L : Int} {ss : List (List Int)} (h : ¬ (0 ≤ L ∧ L ≤ 1000000)) : okP L ss = false := by
 cases e : okP L ss with
 | false => rfl
 | true => exact absurd ⟨(okP_of e).l0, (okP_of e).l1⟩ h
theorem okP_n {L : Int} {ss : List (List Int)} (h : ¬ ss.length ≤ 16) : okP L ss = false := by
 cases e : okP L ss with
 | false => rfl
 | true => exact absurd (okP_of e).n h
theorem okP_z {L : Int} {ss : List (List Int)} {i : Nat} (h : 92 < (ss.getD i []).length) : okP L ss = false := by
 cases e : okP L ss with
 | false => rfl
 | true => have := (okP_of e).z i; omega
theorem okP_e {L : Int} {ss : List (List Int)} (h0 : 0 < ss.length) (h : (ss.getD (ss.length - 1) []).length = 0) : okP L ss = false := by
 cases e : okP L ss with
 | false => rfl
 | true => have := (okP_of e).e h0; omega
theorem okP_t {L : Int} {ss : List (List Int)} (h : ¬ 1 + ss.length + tot ss ≤ 240) : okP L ss = false := by
 cases e : okP L ss with
 | false => rfl
 | true => have := (okP_of e).t; omega
set_option maxHeartbeats 3200000 in
theorem spec_PageUsed (L : Int) {a : Option Addr} {n : Nat} (c : Nat) {ss : List (List Int)} {w : World} (h : ReadsS w a ss) (hl : ss.length = n) :
 Calls Tryz.prog 76 #[.agg #[.int .i64 L, .slice a n c]] w fun e w' => e = .returned (.int .i64 (usedP L ss)) ∧ Below w.heap.size w w' := by
 have hA := Below.alloc1 w (.cells #[.int .i64 L, .slice a n c] 87)
 have X0 := BoxP.new w L a n c 87
 have i1 := spec_inP L 0 1000000
 by_cases h1 : 0 ≤ L ∧ L ≤ 1000000
 · rw [decide_eq_true h1] at i1
   by_cases h2 : n ≤ 16
   · have q2 : ¬ (16 : Int) < (n : Int) := by omega
     have HA := hid hA
     have h3 := hid (h.below hA (Nat.le_refl _))
     clear hA h
     go_enter Tryz.func76, Tryz.ntmps76
     go_wp2_with fail
     refine (i1 _).mono ?_
     rintro e w1 ⟨rfl, e1⟩
     subst w1
     clear i1
     obtain ⟨c0, c1⟩ := X0
     go_wp2_with fail
     generalize w.alloc (.cells #[.int .i64 L, .slice a n c] 87) = W at *
     go_loopw [3, 4] (fun s i wr => ∃ k t m : Nat, k ≤ n ∧ i = .int .i64 k ∧ s = .int .i64 (1 + (n : Int) + (t : Int)) ∧ t ≤ 1500 ∧ Hid (t = tot (ss.take k) ∧ t ≤ 92 * k ∧ ∀ j, j < k → (ss.getD j []).length ≤ 92) ∧ wr = W.drewN m) (fun _ i _ => n - (intOf i).toNat)
     case atStart => exact ⟨0, 0, 0, Nat.zero_le _, rfl, by simp, by omega, hid ⟨by simp [tot], by omega, fun j hj => by omega⟩, rfl⟩
     case round =>
      obtain ⟨k, t, m, hk, rfl, rfl, ht, HT, rfl⟩ := hrel
      by_cases hlt : k < n
      · have hlt' : (k : Int) < (n : Int) := by omega
        have hk0 : (0 : Int) ≤ (k : Int) := by omega
        rcases h3.out.cells with h0 | ⟨b, off, rfl, hc⟩
        · omega
        obtain ⟨v, hcx, a, c', rfl, hr0, _, _⟩ := hc k (by omega)
        have HS := hid (tot_step ss k (by omega))
        obtain ⟨z, hz⟩ : ∃ z, (ss.getD k []).length = z := ⟨_, rfl⟩
        rw [hz] at hcx HS
        have HZ := hid hz
        clear hc hr0 hz
        by_cases hb : 92 < z
        · have hb' : (92 : Int) < (z : Int) := by omega
          have HO := hid (usedP_no (okP_z (L := L) (ss := ss) (i := k) (by rw [HZ.out]; exact hb)))
          go_wp2
          go_ret
          exact ⟨by rw [HO.out]; rfl, HA.out.trans ((Still.drewN _ _).below _)⟩
        · have hb' : ¬ (92 : Int) < (z : Int) := by omega
          go_wp2
          try go_quiet (fail)
          try go_wp2
          go_roundw
          case rel => exact ⟨k + 1, t + z, _, by omega, by go_num, by go_num, by have := HT.out.2.1; omega, hid ⟨by rw [HS.out, ← HT.out.1], by have := HT.out.2.1; omega, fun j hj => by by_cases e : j = k; (subst e; rw [HZ.out]; omega); exact HT.out.2.2 j (by omega)⟩, rfl⟩
          case measure => simp [intOf]; omega
      · obtain rfl : k = n := by omega
        have hlt' : ¬ (k : Int) < (k : Int) := by omega
        have HT1 := hid (show t = tot ss by rw [HT.out.1, List.take_of_length_le (by omega)])
        have HB := hid (HA.out.trans ((Still.drewN W m).below _))
        by_cases hk0 : k = 0
        · subst hk0
          obtain rfl := List.eq_nil_of_length_eq_zero hl
          obtain rfl : t = 0 := HT1.out
          have HO := hid (show usedP L [] = 1 from usedP_yes (ss := []) (okP_mk ⟨h1.1, h1.2, by simp, by simp, by simp, by simp [tot]⟩))
          go_wp2
          go_ret
          exact ⟨by rw [HO.out]; rfl, HB.out⟩
        have hk1 : (0 : Int) < (k : Int) := by omega
        rcases h3.out.cells with h0 | ⟨b, off, rfl, hc⟩
        · omega
        obtain ⟨q, hq⟩ : ∃ q, k - 1 = q := ⟨_, rfl⟩
        have hq1 : (k : Int) - 1 = (q : Int) := by omega
        have hq2 : (0 : Int) ≤ (q : Int) := by omega
        have hq3 : (q : Int) < (k : Int) := by omega
        obtain ⟨v, hcx, a, c', rfl, hr0, _, _⟩ := hc q (by omega)
        obtain ⟨z, hz⟩ : ∃ z, (ss.getD q []).length = z := ⟨_, rfl⟩
        rw [hz] at hcx
        have HZ := hid hz
        have HQ := hid hq
        clear hc hr0 hz hq
        by_cases hz0 : z = 0
        · subst hz0
          have HO := hid (usedP_no (okP_e (L := L) (ss := ss) (by omega) (by rw [hl, HQ.out]; exact HZ.out)))
          go_wp2
          go_ret
          exact ⟨by rw [HO.out]; rfl, HB.out⟩
        · have hzq : ((z : Int) == 0) = false := by simpa using hz0
          by_cases ht2 : 1 + k + t ≤ 240
          · have q4 : ¬ (240 : Int) < 1 + (k : Int) + (t : Int) := by omega
            have HO := hid (show usedP L ss = 1 + (k : Int) + (t : Int) by
             rw [usedP_yes (okP_mk ⟨h1.1, h1.2, by omega, fun _ => by rw [hl, HQ.out, HZ.out]; omega, fun i => by
              by_cases hi : i < k
              · exact HT.out.2.2 i hi
              · rw [List.getD_eq_getElem?_getD, List.getElem?_eq_none (by omega)]; simp, by rw [hl, ← HT1.out]; exact ht2⟩), hl, HT1.out])
            go_wp2
            go_ret
            exact ⟨by rw [HO.out]; rfl, HB.out⟩
          · have q4 : (240 : Int) < 1 + (k : Int) + (t : Int) := by omega
            have HO := hid (usedP_no (okP_t (L := L) (ss := ss) (by rw [hl, ← HT1.out]; exact ht2)))
            go_wp2
            go_ret
            exact ⟨by rw [HO.out]; rfl, HB.out⟩
   · have q2 : (16 : Int) < (n : Int) := by omega
     have HO := hid (usedP_no (okP_n (L := L) (ss := ss) (by omega)))
     go_enter Tryz.func76, Tryz.ntmps76
     go_wp2_with fail
     refine (i1 _).mono ?_
     rintro e w1 ⟨rfl, e1⟩
     subst w1
     go_wp2
     go_ret
     exact ⟨by rw [HO.out]; rfl, hA⟩
 · rw [decide_eq_false h1] at i1
   have HO := hid (usedP_no (okP_L (L := L) (ss := ss) h1))
   go_enter Tryz.func76, Tryz.ntmps76
   go_wp2_with fail
   refine (i1 _).mono ?_
   rintro e w1 ⟨rfl, e1⟩
   subst w1
   go_wp2
   go_ret
   exact ⟨by rw [HO.out]; rfl, hA⟩
end Go.Proofs.YtkfhfjghfadofaaGreat
/- The contracts of the library's IndexFunc and ContainsFunc over slots, of endsFree, of the program's PageUsed and isPage. Conditions: lists of at most 2^47. -/

namespace Go.Proofs.YtkfhfjghfadofaaGreat
open Go.RowKit
set_option maxRecDepth 100000
def ixOf (p : Nat → Bool) (ss : List (List Int)) (r : Int) : Prop := (r = -1 ∧ ∀ j, j < ss.length → p (ss.getD j []).length = false) ∨ ∃ k : Nat, r = k ∧ k < ss.length ∧ p (ss.getD k []).length = true ∧ ∀ j, j < k → p (ss.getD j []).length = false
set_option maxHeartbeats 3200000 in
theorem index_free {a : Option Addr} {n : Nat} (c : Nat) {ss : List (List Int)} {w : World} (h : ReadsS w a ss) (hl : ss.length = n) (hn : n ≤ 140737488355328) :
 Calls Tryz.prog 122 #[.slice a n c, .func (.func 123) #[] #[]] w fun e w' => ∃ r, e = .returned (.int .i64 r) ∧ ixOf (fun m => decide (m = 0)) ss r ∧ Below w.heap.size w w' := by
 go_enter Tryz.func122, Tryz.ntmps122
 go_wp2_with fail
 go_loopw [8] (fun i wr => ∃ k m : Nat, k ≤ n ∧ i = .int .i64 k ∧ Hid (∀ j, j < k → (fun m => decide (m = 0)) (ss.getD j []).length = false) ∧ wr = w.drewN m) (fun i _ => n - (intOf i).toNat)
 case atStart => exact ⟨0, 0, Nat.zero_le _, rfl, hid (fun j hj => by omega), rfl⟩
 case round =>
  obtain ⟨k, m, hk, rfl, HJ, rfl⟩ := hrel
  by_cases hlt : k < n
  · have hlt' : (k : Int) < (n : Int) := by omega
    have hk0 : (0 : Int) ≤ (k : Int) := by omega
    rcases h.cells with h0 | ⟨b, off, rfl, hc⟩
    · omega
    obtain ⟨v, hcx, a, c', rfl, hr0, _, _⟩ := hc k (by omega)
    obtain ⟨z, hz⟩ : ∃ z, (ss.getD k []).length = z := ⟨_, rfl⟩
    rw [hz] at hcx
    have HZ := hid hz
    clear hc hr0 hz
    go_wp2_with fail
    refine (impl_isFree a z c' _).mono ?_
    rintro e w1 ⟨rfl, e1⟩
    subst w1
    by_cases hp : decide (z = 0) = true
    · rw [hp]
      have HP := hid hp
      clear hp
      go_wp2_with fail
      go_ret
      exact ⟨_, rfl, .inr ⟨k, rfl, by omega, by rw [HZ.out]; exact HP.out, HJ.out⟩, (Still.drewN _ _).below _⟩
    · rw [Bool.not_eq_true] at hp
      rw [hp]
      have HP := hid hp
      clear hp
      go_wp2_with fail
      go_roundw
      case rel => exact ⟨k + 1, _, by omega, by go_num, hid (fun j hj => by by_cases e : j = k; (subst e; rw [HZ.out]; exact HP.out); exact HJ.out j (by omega)), rfl⟩
      case measure => simp [intOf]; omega
  · obtain rfl : k = n := by omega
    have hlt' : ¬ (k : Int) < (k : Int) := by omega
    go_wp2_with fail
    go_ret
    exact ⟨_, rfl, .inl ⟨rfl, fun j hj => HJ.out j (by omega)⟩, (Still.drewN _ _).below _⟩
set_option maxHeartbeats 3200000 in
theorem index_long {a : Option Addr} {n : Nat} (c : Nat) {ss : List (List Int)} {w : World} (h : ReadsS w a ss) (hl : ss.length = n) (hn : n ≤ 140737488355328) :
 Calls Tryz.prog 122 #[.slice a n c, .func (.func 146) #[] #[]] w fun e w' => ∃ r, e = .returned (.int .i64 r) ∧ ixOf (fun m => decide (92 < m)) ss r ∧ Below w.heap.size w w' := by
 go_enter Tryz.func122, Tryz.ntmps122
 go_wp2_with fail
 go_loopw [8] (fun i wr => ∃ k m : Nat, k ≤ n ∧ i = .int .i64 k ∧ Hid (∀ j, j < k → (fun m => decide (92 < m)) (ss.getD j []).length = false) ∧ wr = w.drewN m) (fun i _ => n - (intOf i).toNat)
 case atStart => exact ⟨0, 0, Nat.zero_le _, rfl, hid (fun j hj => by omega), rfl⟩
 case round =>
  obtain ⟨k, m, hk, rfl, HJ, rfl⟩ := hrel
  by_cases hlt : k < n
  · have hlt' : (k : Int) < (n : Int) := by omega
    have hk0 : (0 : Int) ≤ (k : Int) := by omega
    rcases h.cells with h0 | ⟨b, off, rfl, hc⟩
    · omega
    obtain ⟨v, hcx, a, c', rfl, hr0, _, _⟩ := hc k (by omega)
    obtain ⟨z, hz⟩ : ∃ z, (ss.getD k []).length = z := ⟨_, rfl⟩
    rw [hz] at hcx
    have HZ := hid hz
    clear hc hr0 hz
    go_wp2_with fail
    refine (impl_isTooLong a z c' _).mono ?_
    rintro e w1 ⟨rfl, e1⟩
    subst w1
    by_cases hp : decide (92 < z) = true
    · rw [hp]
      have HP := hid hp
      clear hp
      go_wp2_with fail
      go_ret
      exact ⟨_, rfl, .inr ⟨k, rfl, by omega, by rw [HZ.out]; exact HP.out, HJ.out⟩, (Still.drewN _ _).below _⟩
    · rw [Bool.not_eq_true] at hp
      rw [hp]
      have HP := hid hp
      clear hp
      go_wp2_with fail
      go_roundw
      case rel => exact ⟨k + 1, _, by omega, by go_num, hid (fun j hj => by by_cases e : j = k; (subst e; rw [HZ.out]; exact HP.out); exact HJ.out j (by omega)), rfl⟩
      case measure => simp [intOf]; omega
  · obtain rfl : k = n := by omega
    have hlt' : ¬ (k : Int) < (k : Int) := by omega
    go_wp2_with fail
    go_ret
    exact ⟨_, rfl, .inl ⟨rfl, fun j hj => HJ.out j (by omega)⟩, (Still.drewN _ _).below _⟩
set_option maxHeartbeats 1600000 in
theorem contains_long {a : Option Addr} {n : Nat} (c : Nat) {ss : List (List Int)} {w : World} (h : ReadsS w a ss) (hl : ss.length = n) (hn : n ≤ 140737488355328) :
 Calls Tryz.prog 152 #[.slice a n c, .func (.func 146) #[] #[]] w fun e w' => e = .returned (.bool (anyL ss)) ∧ Below w.heap.size w w' := by
 go_enter Tryz.func152, Tryz.ntmps152
 go_wp2_with fail
 refine (index_long c h hl hn).mono ?_
 rintro e w1 ⟨r, rfl, hr, b⟩
 have HB := hid b
 clear b
 rcases hr with ⟨rfl, hr⟩ | ⟨k, rfl, hk, h1, _⟩
 · have HO := hid (anyL_no (ss := ss) fun i hi => by have := of_decide_eq_false (hr i hi); omega)
   clear hr
   go_wp2_with fail
   go_ret
   exact ⟨by rw [HO.out]; rfl, HB.out⟩
 · have HO := hid (anyL_yes (ss := ss) (i := k) (of_decide_eq_true h1))
   have hk0 : (0 : Int) ≤ (k : Int) := by omega
   clear h1
   go_wp2_with fail
   go_ret
   exact ⟨by rw [HO.out]; rfl, HB.out⟩
set_option maxHeartbeats 1600000 in
theorem impl_endsFree (L : Int) {a : Option Addr} {n : Nat} (c : Nat) {ss : List (List Int)} {w : World} (h : ReadsS w a ss) (hl : ss.length = n) (hn : n ≤ 140737488355328) :
 Calls Tryz.prog 151 #[.agg #[.int .i64 L, .slice a n c]] w fun e w' => e = .returned (.bool (endF ss)) ∧ Below w.heap.size w w' := by
 have HA := hid (Below.alloc1 w (.cells #[.int .i64 L, .slice a n c] 87))
 have h3 := hid (h.below HA.out (Nat.le_refl _))
 by_cases h0 : n = 0
 · subst h0
   obtain rfl := List.eq_nil_of_length_eq_zero hl
   go_enter Tryz.func151, Tryz.ntmps151
   go_wp2_with fail
   go_ret
   exact ⟨rfl, HA.out⟩
 · have hk1 : (0 : Int) < (n : Int) := by omega
   obtain ⟨q, hq⟩ : ∃ q, n - 1 = q := ⟨_, rfl⟩
   have hq1 : (n : Int) - 1 = (q : Int) := by omega
   have hq2 : (0 : Int) ≤ (q : Int) := by omega
   have hq3 : (q : Int) < (n : Int) := by omega
   rcases h3.out.cells with h00 | ⟨b, off, rfl, hc⟩
   · omega
   obtain ⟨v, hcx, a, c', rfl, hr0, _, _⟩ := hc q (by omega)
   have HE := hid (show endF ss = decide ((ss.getD q []).length = 0) by
    unfold endF; rw [hl, hq]
    by_cases e : (ss.getD q []).length = 0
    · rw [decide_eq_true ⟨by omega, e⟩, decide_eq_true e]
    · rw [decide_eq_false (fun x => e x.2), decide_eq_false e])
   obtain ⟨z, hz⟩ : ∃ z, (ss.getD q []).length = z := ⟨_, rfl⟩
   rw [hz] at hcx HE
   have HQ := hid hq
   have HQ1 := hid hq1
   clear hc hr0 hz hq h
   go_enter Tryz.func151, Tryz.ntmps151
   go_wp2_with fail
   refine (impl_isFree a z c' _).mono ?_
   rintro e w1 ⟨rfl, e1⟩
   subst w1
   go_wp2_with fail
   go_ret
   exact ⟨by rw [HE.out]; rfl, HA.out⟩
theorem okP_eq (L : Int) (ss : List (List Int)) (h1 : decide (0 ≤ L ∧ L ≤ 1000000) = true) (h2 : ss.length ≤ 16) (h3 : endF ss = false) (h4 : anyL ss = false) : okP L ss = decide (1 + ss.length + tot ss ≤ 240) := by
 unfold okP; rw [h1, decide_eq_true h2, h3, h4]; rfl
set_option maxHeartbeats 3200000 in
theorem impl_PageUsed_any (L : Int) {a : Option Addr} {n : Nat} (c : Nat) {ss : List (List Int)} {w : World} (h : ReadsS w a ss) (hl : ss.length = n) :
 Calls Tryz.prog 111 #[.agg #[.int .i64 L, .slice a n c]] w fun e w' => e = .returned (.int .i64 (usedP L ss)) ∧ Below w.heap.size w w' := by
 have HX := hid (ArgP.new L n c h 87 w.heap.size rfl)
 have HB := hid (Below.alloc1 w (.cells #[.int .i64 L, .slice a n c] 87))
 have i1 := impl_inP L 0 1000000
 clear h
 go_enter Tryz.func111, Tryz.ntmps111
 go_wp2_with fail
 generalize w.alloc (.cells #[.int .i64 L, .slice a n c] 87) = W at *
 refine (i1 _).mono ?_
 rintro e w1 ⟨rfl, e1⟩
 subst w1
 clear i1
 by_cases h1 : decide (0 ≤ L ∧ L ≤ 1000000) = true
 · rw [h1]
   have H1 := hid h1
   clear h1
   obtain ⟨c0, c1⟩ := HX.out.box
   by_cases h2 : n ≤ 16
   · have q2 : ¬ (16 : Int) < (n : Int) := by omega
     go_wp2_with fail
     refine (impl_endsFree L c HX.out.reads hl (by omega)).mono ?_
     rintro e w1 ⟨rfl, b⟩
     replace HX := hid (HX.out.below b (Nat.le_refl _))
     replace HB := hid (HB.out.trans (b.mono HB.out.size))
     clear b c0 c1
     by_cases h3 : endF ss = true
     · rw [h3]
       have HO := hid (usedP_no (okP_e (L := L) (ss := ss) (of_decide_eq_true h3).1 (of_decide_eq_true h3).2))
       clear h3
       go_wp2_with fail
       go_ret
       exact ⟨by rw [HO.out]; rfl, HB.out⟩
     rw [Bool.not_eq_true] at h3
     rw [h3]
     have H3 := hid h3
     clear h3
     obtain ⟨c0, c1⟩ := HX.out.box
     go_wp2_with fail
     refine (contains_long c HX.out.reads hl (by omega)).mono ?_
     rintro e w2 ⟨rfl, b⟩
     replace HX := hid (HX.out.below b (Nat.le_refl _))
     replace HB := hid (HB.out.trans (b.mono HB.out.size))
     clear b c0 c1
     by_cases h4 : anyL ss = true
     · rw [h4]
       have HO := hid (usedP_no (L := L) (ss := ss) (by unfold okP; rw [h4]; simp))
       clear h4
       go_wp2_with fail
       go_ret
       exact ⟨by rw [HO.out]; rfl, HB.out⟩
     rw [Bool.not_eq_true] at h4
     rw [h4]
     have H4 := hid h4
     have H5 := hid (anyL_at h4)
     have HK := hid (okP_eq L ss H1.out (by omega) H3.out h4)
     clear h4
     obtain ⟨c0, c1⟩ := HX.out.box
     go_wp2_with fail
     go_loopw [3, 28] (fun s i wr => ∃ k t m : Nat, k ≤ n ∧ i = .int .i64 k ∧ s = .int .i64 (1 + (k : Int) + (t : Int)) ∧ t ≤ 1500 ∧ Hid (t = tot (ss.take k) ∧ t ≤ 92 * k) ∧ wr = w2.drewN m) (fun _ i _ => n - (intOf i).toNat)
     case atStart => exact ⟨0, 0, 0, Nat.zero_le _, rfl, by simp, by omega, hid ⟨by simp [tot], by omega⟩, rfl⟩
     case round =>
      obtain ⟨k, t, m, hk, rfl, rfl, ht, HT, rfl⟩ := hrel
      by_cases hlt : k < n
      · have hlt' : (k : Int) < (n : Int) := by omega
        have hk0 : (0 : Int) ≤ (k : Int) := by omega
        rcases HX.out.reads.cells with h0 | ⟨b, off, rfl, hc⟩
        · omega
        obtain ⟨v, hcx, a, c', rfl, hr0, _, _⟩ := hc k (by omega)
        have HS := hid (tot_step ss k (by omega))
        have hz92 := H5.out k
        obtain ⟨z, hz⟩ : ∃ z, (ss.getD k []).length = z := ⟨_, rfl⟩
        rw [hz] at hcx HS hz92
        clear hc hr0 hz
        go_wp2_with fail
        try go_quiet (fail)
        try go_wp2_with fail
        go_roundw
        case rel => exact ⟨k + 1, t + z, _, by omega, by go_num, by go_num, by have := HT.out.2; omega, hid ⟨by rw [HS.out, ← HT.out.1], by have := HT.out.2; omega⟩, rfl⟩
        case measure => simp [intOf]; omega
      · obtain rfl : k = n := by omega
        have hlt' : ¬ (k : Int) < (k : Int) := by omega
        have HT1 := hid (show t = tot ss by rw [HT.out.1, List.take_of_length_le (by omega)])
        replace HB := hid (HB.out.trans ((Still.drewN w2 m).below _))
        by_cases ht2 : 1 + k + t ≤ 240
        · have q4 : ¬ (240 : Int) < 1 + (k : Int) + (t : Int) := by omega
          have HO := hid (show usedP L ss = 1 + (k : Int) + (t : Int) by rw [usedP_yes (by rw [HK.out, hl, ← HT1.out]; exact decide_eq_true ht2), hl, HT1.out])
          go_wp2_with fail
          go_ret
          exact ⟨by rw [HO.out]; rfl, HB.out⟩
        · have q4 : (240 : Int) < 1 + (k : Int) + (t : Int) := by omega
          have HO := hid (usedP_no (okP_t (L := L) (ss := ss) (by rw [hl, ← HT1.out]; exact ht2)))
          go_wp2_with fail
          go_ret
          exact ⟨by rw [HO.out]; rfl, HB.out⟩
   · have q2 : (16 : Int) < (n : Int) := by omega
     have HO := hid (usedP_no (okP_n (L := L) (ss := ss) (by omega)))
     go_wp2_with fail
     go_ret
     exact ⟨by rw [HO.out]; rfl, HB.out⟩
 · have HO := hid (usedP_no (okP_L (L := L) (ss := ss) (fun e => h1 (decide_eq_true e))))
   rw [Bool.not_eq_true] at h1
   rw [h1]
   clear h1
   go_wp2_with fail
   go_ret
   exact ⟨by rw [HO.out]; rfl, HB.out⟩
set_option maxHeartbeats 1600000 in
theorem impl_isPage_any (L : Int) {a : Option Addr} {n : Nat} (c : Nat) {ss : List (List Int)} {w : World} (h : ReadsS w a ss) (hl : ss.length = n) :
 Calls Tryz.prog 60 #[.agg #[.int .i64 L, .slice a n c]] w fun e w' => e = .returned (.bool (okP L ss)) ∧ Below w.heap.size w w' := by
 have HA := hid (Below.alloc1 w (.cells #[.int .i64 L, .slice a n c] 87))
 have h3 := hid (h.below HA.out (Nat.le_refl _))
 have HU := hid (usedP_bd (L := L) (ss := ss))
 clear h
 go_enter Tryz.func60, Tryz.ntmps60
 go_wp2_with fail
 refine (impl_PageUsed_any L c h3.out hl).mono ?_
 rintro e w1 ⟨rfl, b⟩
 have HB := hid (HA.out.trans (b.mono HA.out.size))
 clear b
 rcases HU.out with ⟨e1, e2⟩ | ⟨e1, e2, e3⟩
 · rw [e2]
   have HE := hid e1
   clear e1 e2
   go_wp2_with fail
   go_ret
   exact ⟨by rw [HE.out]; rfl, HB.out⟩
 · have HE := hid e1
   clear e1
   generalize usedP L ss = u at *
   have q : (u != -1) = true := by simp; omega
   go_wp2_with fail
   go_ret
   exact ⟨by rw [HE.out]; rfl, HB.out⟩
theorem impl_isPage (L : Int) {a : Option Addr} {n : Nat} (c : Nat) {ss : List (List Int)} {w : World} (h : ReadsS w a ss) (hl : ss.length = n) (_ : n ≤ 140737488355328) :
 Calls Tryz.prog 60 #[.agg #[.int .i64 L, .slice a n c]] w fun e w' => e = .returned (.bool (okP L ss)) ∧ Below w.heap.size w w' := impl_isPage_any L c h hl
end Go.Proofs.YtkfhfjghfadofaaGreat
/- A page in a box whose slots are changed in place. No statement of its own; no conditions. -/


namespace Go.Proofs.YtkfhfjghfadofaaGreat
open Go.RowKit
theorem own_nk {w : World} {B k : Nat} {e t : TypeId} {s : Nat} {v : Value} {n : Nat} {xs : List Value} {cs : Array Value} {fz : Nat × Nat} (o : w.ownsRow B e s v n xs) (hk : w.heap[k]? = some (.cells cs t fz)) (ht : t ≠ e) : some k ≠ v.ownBlock := by
 rcases oty_ne o hk ht with h | h
 · rw [h]; exact fun e => by cases e
 · exact fun e => h e.symm
theorem grown_set7 (w : World) (g j : Nat) (v : Value) : w.grownBy (w.setCell ⟨g, j, none⟩ v) (some g) :=
 ⟨rfl, rfl, rfl, by rw [set_size]; exact Nat.le_refl _, fun k _ hk => heap_set_ne w g j k v (fun e => hk (by rw [e]))⟩
theorem grown_row7 (w : World) (g : Nat) (cs : Array Value) : w.grownBy (w.setRow g cs) (some g) :=
 ⟨rfl, rfl, rfl, by simp [World.setRow], fun k _ hk => setRow_other w g k cs (fun e => hk (by rw [e]))⟩
structure Liv (w : World) (lo g : Nat) (L : Int) (a : Option Addr) (k c : Nat) (xs : List Value) (ts : List (List Int)) : Prop where
 row : w.heap[g]? = some (.cells #[.int .i64 L, .slice a k c] 87 (0, 0))
 own : w.ownsRow lo 22 1 (.slice a k c) k xs
 bands : Bands w lo w.heap.size xs ts
 len : ts.length = k
section
variable {w w' : World} {lo g : Nat} {L : Int} {a : Option Addr} {k c : Nat} {xs : List Value} {ts : List (List Int)}
theorem Liv.box (h : Liv w lo g L a k c xs ts) : BoxP w g L a k c := BoxP.row h.row
theorem Liv.fz (h : Liv w lo g L a k c xs ts) (i : Nat) : w.frozen? ⟨g, i, none⟩ = false := frozen_of_row _ _ _ _ _ h.row
theorem Liv.lt (h : Liv w lo g L a k c xs ts) : g < w.heap.size := (Array.getElem?_eq_some_iff.1 h.row).1
theorem Liv.below (h : Liv w lo g L a k c xs ts) {B : Nat} (b : Below B w w') (hB : w.heap.size ≤ B) : Liv w' lo g L a k c xs ts := by
 have hs := b.size
 exact ⟨(b.block g (Nat.lt_of_lt_of_le h.lt hB)).trans h.row, owns_below b hB h.own, (h.bands.agree (Agree.below b hB)).mono (Nat.le_refl _) hs, h.len⟩
theorem Liv.ownP (h : Liv w lo g L a k c xs ts) : OwnP w lo w.heap.size (.slice a k c) ts := ⟨⟨xs, by rw [h.len]; exact h.own, h.bands⟩, fun q hq => (h.own.lt q hq).2⟩
theorem Liv.reads (h : Liv w lo g L a k c xs ts) : ReadsS w a ts := h.ownP.rd
theorem Liv.beside (h : Liv w lo g L a k c xs ts) {r : Nat} {cs : Array Value} {t : TypeId} {fz : Nat × Nat} (hr : w.heap[r]? = some (.cells cs t fz)) (h22 : t ≠ 22) (h5 : t ≠ 5) (hg : w.grownBy w' (some r)) (hne : r ≠ g) : Liv w' lo g L a k c xs ts :=
 ⟨(hg.block g h.lt (fun e => hne (by cases e; rfl))).trans h.row, h.own.kept hg (oty_ne h.own hr h22), (h.bands.beside hg (fun i => oty_ne (h.bands.own i) hr h5)).mono (Nat.le_refl _) hg.size, h.len⟩
theorem Liv.lsn (h : Liv w lo g L a k c xs ts) (L' : Int) : Liv (w.setCell ⟨g, 0, none⟩ (.int .i64 L')) lo g L' a k c xs ts := by
 have hg := grown_set7 w g 0 (.int .i64 L')
 exact ⟨heap_setCell_same w g 0 _ 87 (.int .i64 L') h.row, h.own.kept hg (oty_ne h.own h.row (by decide)), (h.bands.beside hg (fun i => oty_ne (h.bands.own i) h.row (by decide))).mono (Nat.le_refl _) hg.size, h.len⟩
theorem Liv.grow {X w5 : World} {v : Value} {z : List Int} {a2 : Option Addr} {c2 : Nat} (h : Liv w lo g L a k c xs ts) (bX : Below w.heap.size w X) (hlo : lo ≤ w.heap.size) (oX : X.ownsRow w.heap.size 5 1 v z.length (bys z)) (bd : ∀ j, 0 ≤ z.getD j 0 ∧ z.getD j 0 ≤ 255)
 (o1 : w5.ownsRow lo 22 1 (.slice a2 (k + 1) c2) (k + 1) (xs ++ [v])) (hg : X.grownBy w5 (Value.slice a k c).ownBlock) : Liv (w5.setCell ⟨g, 1, none⟩ (.slice a2 (k + 1) c2)) lo g L a2 (k + 1) c2 (xs ++ [v]) (ts ++ [z]) := by
 have hB1 := h.bands.grow hlo bX oX bd (owns_below bX (Nat.le_refl _) h.own) (by decide) hg
 have V2 : w5.heap[g]? = _ := (hg.block g (Nat.lt_of_lt_of_le h.lt bX.size) (own_nk h.own h.row (by decide))).trans ((bX.block g h.lt).trans h.row)
 have hs := grown_set7 w5 g 1 (.slice a2 (k + 1) c2)
 exact ⟨heap_setCell_same w5 g 1 _ 87 (.slice a2 (k + 1) c2) V2, o1.kept hs (oty_ne o1 V2 (by decide)), (hB1.beside hs (fun i => oty_ne (hB1.own i) V2 (by decide))).mono (Nat.le_refl _) hs.size, by simp [h.len]⟩
theorem Liv.grow_at {X w5 : World} {a2 : Option Addr} {c2 r : Nat} {o : Obj} (_h : Liv w lo g L a k c xs ts) (bX : Below w.heap.size w X) (hg : X.grownBy w5 (Value.slice a k c).ownBlock) (hr : w.heap[r]? = some o) (hne : some r ≠ (Value.slice a k c).ownBlock) (hrg : r ≠ g) : (w5.setCell ⟨g, 1, none⟩ (.slice a2 (k + 1) c2)).heap[r]? = some o := by
 have hl := (Array.getElem?_eq_some_iff.1 hr).1
 exact (heap_set_ne _ _ _ _ _ hrg).trans ((hg.block r (Nat.lt_of_lt_of_le hl bX.size) hne).trans ((bX.block r hl).trans hr))
theorem Liv.put {gl : Nat} {X : World} {v : Value} {z : List Int} {i : Nat} (h : Liv w lo g L (some ⟨gl, 0, none⟩) k c xs ts) (bX : Below w.heap.size w X) (hlo : lo ≤ w.heap.size) (oX : X.ownsRow w.heap.size 5 1 v z.length (bys z)) (bd : ∀ j, 0 ≤ z.getD j 0 ∧ z.getD j 0 ≤ 255) (hi : i < k) :
 Liv (X.setCell ⟨gl, i, none⟩ v) lo g L (some ⟨gl, 0, none⟩) k c (xs.set i v) (ts.set i z) := by
 have hX := h.below bX (Nat.le_refl _)
 have st := hX.own.stored i v
 have B1 := (h.bands.agree (Agree.below bX (Nat.le_refl _))).swap hlo bX.size (i := i) (by rw [h.len]; exact hi) oX bd (Nat.le_refl _)
 refine ⟨(st.2.block g hX.lt (own_nk hX.own hX.row (by decide))).trans hX.row, st.1, ?_, by rw [List.length_set]; exact h.len⟩
 exact (B1.beside st.2 (fun q => owns_ne (B1.own q) hX.own (by decide))).mono (Nat.le_refl _) st.2.size
theorem Liv.put_at {gl : Nat} {X : World} {v : Value} {i r : Nat} {o : Obj} (bX : Below w.heap.size w X) (hr : w.heap[r]? = some o) (hne : r ≠ gl) : (X.setCell ⟨gl, i, none⟩ v).heap[r]? = some o :=
 (heap_set_ne _ _ _ _ _ hne).trans ((bX.block r (Array.getElem?_eq_some_iff.1 hr).1).trans hr)
end
end Go.Proofs.YtkfhfjghfadofaaGreat
/- The contract of the library's slices.Backward over slots, and of the program's withoutFreeEnd. Conditions: lists of at most 2^20. -/













namespace Go.Proofs.YtkfhfjghfadofaaGreat
open Go.RowKit Go.Shelf
attribute [local go_sem] Oper.semAt_some
def dn (n k : Nat) : List Nat := (List.range k).map fun j => n - 1 - j
theorem dn_succ (n k : Nat) : dn n (k + 1) = dn n k ++ [n - 1 - k] := by simp [dn, List.range_succ]
theorem dn_length (n k : Nat) : (dn n k).length = k := by simp [dn]
def enB (n : Nat) (da : Nat → Option Addr) (dl dc : Nat → Nat) (i : Nat) : Array Value := #[.int .i64 ((min i (n - 1) : Nat) : Int), .slice (da (min i (n - 1))) (dl (min i (n - 1))) (dc (min i (n - 1)))]
set_option maxRecDepth 100000 in
set_option maxHeartbeats 2000000 in
theorem back1 (F : Fence) (n : Nat) (h9 : F.fn 179) (hro : F.round = none) (hn : 1 ≤ n) (l Bs n₀ : Nat) (aW : Option Addr) (nW cW : Nat) (hnW : nW ≤ 1048576) (da : Nat → Option Addr) (dl dc : Nat → Nat) (J Jx : List Nat → World → Prop)
 (hY : ∀ pre x W, J pre W → pre.length < nW → YieldAt F (n - 1) Tryz.prog l (enB nW da dl dc x) W fun e W' =>
  (e = .returned (.bool true) ∧ J (pre ++ [x]) W' ∧ Below n₀ W W') ∨ (e = .returned (.bool false) ∧ Jx (pre ++ [x]) W'))
 (W : World) (hBs : W.cell? ⟨Bs, 0, none⟩ = some (.slice aW nW cW)) (hBn : Bs < n₀) (hc : nW = 0 ∨ ∃ b off, aW = some ⟨b, off, none⟩ ∧ b < n₀ ∧ ∀ j, j < nW → W.cell? ⟨b, off + j, none⟩ = some (.slice (da j) (dl j) (dc j))) (h0 : J [] W) :
 CallsIn F n Tryz.prog 179 #[.func (.yield l) #[] #[], .pointer (some ⟨Bs, 0, none⟩)] W fun e W' => (∃ v, e = .returned v) ∧
  ((∃ ys, ys = dn nW nW ∧ J ys W') ∨ (∃ pre, (∃ k, k ≤ nW ∧ pre = dn nW k) ∧ Jx pre W')) := by
 refine callsIn_of_wp Tryz.func179 rfl h9 ?_ hro
 simp only [Tryz.ntmps179, List.size_toArray, List.length_cons, List.length_nil, Nat.reduceAdd, Nat.reduceSub, Array.replicate_succ, Array.replicate_zero, List.push_toArray, List.append_toArray, List.nil_append, List.cons_append]
 gi_wp2
 gi_loopw [3] (fun i wr => ∃ k : Nat, k ≤ nW ∧ i = .int .i64 ((nW : Int) - 1 - k) ∧ J (dn nW k) wr ∧ Below n₀ W wr) (fun i _ => (intOf i + 1).toNat)
 case atStart => exact ⟨0, Nat.zero_le _, by simp, h0, Below.refl _ _⟩
 case round =>
  obtain ⟨k, hk, rfl, hJs, hnx⟩ := hrel
  have hbs := (hnx.cell (p := ⟨Bs, 0, none⟩) hBn).trans hBs
  by_cases hlt : k < nW
  · obtain ⟨q, hq⟩ : ∃ q, nW - 1 - k = q := ⟨_, rfl⟩
    have hq1 : (nW : Int) - 1 - k = (q : Int) := by omega
    have hq0 : (0 : Int) ≤ (q : Int) := by omega
    have hqn : (q : Int) < (nW : Int) := by omega
    rcases hc with h00 | ⟨b, off, rfl, hb, hcc⟩
    · omega
    have hcx := (hnx.cell (p := ⟨b, off + q, none⟩) hb).trans (hcc q (by omega))
    obtain ⟨fn, tmps, assign, body, hy, hR⟩ := hY _ q wr hJs (by rw [dn_length]; exact hlt)
    unfold enB at hy
    rw [show min q (nW - 1) = q by omega] at hy
    rw [hq1]
    have HQ := hid hq
    have HQ1 := hid hq1
    clear hq hq1
    gi_wp2
    refine hR.mono ?_
    rintro e W3 (⟨rfl, hJ3, hk3⟩ | ⟨rfl, hJx3⟩)
    · gi_wp2
      go_roundw
      case rel => exact ⟨k + 1, by omega, by have := HQ1.out; simp; omega, by rw [dn_succ, HQ.out]; exact hJ3, hnx.trans hk3⟩
      case measure => simp [intOf]
    · gi_wp2
      refine bodyPost_ret (results_none rfl _ _ _) rfl ?_
      exact ⟨⟨_, rfl⟩, .inr ⟨_, ⟨k + 1, by omega, by rw [dn_succ, HQ.out]⟩, hJx3⟩⟩
  · obtain rfl : k = nW := by omega
    have hneg : ¬ (0 : Int) ≤ (k : Int) - 1 - k := by omega
    gi_wp2
    go_end0
    exact ⟨⟨_, rfl⟩, .inl hJs⟩
set_option maxHeartbeats 1000000 in
theorem back_in (F : Fence) (n : Nat) (h5 : F.fn 173) (hro : F.round = none) (a : Option Addr) (len cap : Nat) (w : World) :
 CallsIn F n Tryz.prog 173 #[.slice a len cap] w fun e w' => e = .returned (.func (.func 179) #[] #[.pointer (some ⟨w.heap.size, 0, none⟩)]) ∧ w' = w.alloc (.cells #[.slice a len cap] 85) := by
 refine callsIn_of_wp Tryz.func173 rfl h5 ?_ hro
 simp only [Tryz.ntmps173, List.size_toArray, List.length_cons, List.length_nil, Nat.reduceAdd, Nat.reduceSub, Array.replicate_succ, Array.replicate_zero, List.push_toArray, List.append_toArray, List.nil_append, List.cons_append]
 gi_wp2
 go_ret
 exact ⟨rfl, rfl⟩
structure ByS (W : World) (n₀ : Nat) (aW : Option Addr) (nW : Nat) (da : Nat → Option Addr) (dl dc : Nat → Nat) : Prop where
 c : nW = 0 ∨ ∃ b off, aW = some ⟨b, off, none⟩ ∧ b < n₀ ∧ ∀ j, j < nW → W.cell? ⟨b, off + j, none⟩ = some (.slice (da j) (dl j) (dc j))
theorem ByS.below {W W' : World} {n₀ : Nat} {aW : Option Addr} {nW : Nat} {da : Nat → Option Addr} {dl dc : Nat → Nat} (h : ByS W n₀ aW nW da dl dc) (b : Below n₀ W W') : ByS W' n₀ aW nW da dl dc := by
 refine ⟨h.c.imp id ?_⟩
 rintro ⟨bb, off, e, hb, hc⟩
 exact ⟨bb, off, e, hb, fun j hj => (b.cell (p := ⟨bb, off + j, none⟩) hb).trans (hc j hj)⟩
theorem back_stops (F : Fence) (n : Nat) (h9 : F.fn 179) (hro : F.round = none) (hn : 1 ≤ n) (Bs n₀ : Nat) (aW : Option Addr) (nW cW : Nat) (hnW : nW ≤ 1048576) (da : Nat → Option Addr) (dl dc : Nat → Nat) (w : World) (hBs : Bs < w.heap.size) (hBn : Bs < n₀) (hn₀ : n₀ ≤ w.heap.size)
 (hc : w.cell? ⟨Bs, 0, none⟩ = some (.slice aW nW cW)) (hI : ByS w n₀ aW nW da dl dc) :
 SeqStopsK F n Tryz.prog 179 #[.pointer (some ⟨Bs, 0, none⟩)] (enB nW da dl dc) (Below n₀) (fun ys => ys = dn nW nW) (fun pre => ∃ k, k ≤ nW ∧ pre = dn nW k) nW w := fun l J Jx W hW _ _ hY h0 => by
 have hc' := (hW.cell (p := ⟨Bs, 0, none⟩) hBs).trans hc
 exact back1 F n h9 hro hn l Bs n₀ aW nW cW hnW da dl dc J Jx hY W hc' hBn (hI.below (hW.mono hn₀)).c h0
set_option maxRecDepth 100000 in
set_option maxHeartbeats 4000000 in
theorem without_walk {aW : Option Addr} {nW : Nat} (cW : Nat) (hnW : nW ≤ 1048576) (da : Nat → Option Addr) (dl dc : Nat → Nat) {w : World} (hI : ByS w w.heap.size aW nW da dl dc) (hcap : nW ≤ cW) :
 Calls Tryz.prog 154 #[.slice aW nW cW] w fun e W' =>
  ((e = .returned (.slice none 0 0) ∧ ∀ j, j < nW → dl j = 0) ∨ (∃ k : Nat, k < nW ∧ e = .returned (.slice aW (k + 1) cW) ∧ dl k ≠ 0 ∧ ∀ j, k < j → j < nW → dl j = 0)) ∧ Below w.heap.size w W' := by
 refine (callsIn_wide (n := 5)).1 ?_
 refine callsIn_of_wp_marks Tryz.func154 rfl trivial ?_ rfl
 simp only [Tryz.ntmps154, List.size_toArray, List.length_cons, List.length_nil, Nat.reduceAdd, Nat.reduceSub, Array.replicate_succ, Array.replicate_zero, List.push_toArray, List.append_toArray, List.nil_append, List.cons_append]
 gi_wp2_with (refine ⟨trivial, ?_⟩; gi_at_call 173; refine (back_in Fence.wide (5 - 1) trivial rfl _ _ _ _).mono ?_; rintro e w' ⟨rfl, rfl⟩)
 have bA := Boxed.new w 85 (.slice aW nW cW)
 have bR := Boxed.new (w.alloc (.cells #[.slice aW nW cW] 85)) 85 (.slice none 0 0)
 have bN := Boxed.new ((w.alloc (.cells #[.slice aW nW cW] 85)).alloc (.cells #[.slice none 0 0] 85)) 85 (.slice aW nW cW)
 simp only [World.size_alloc] at bR bN
 have hB0 : Below w.heap.size w (((w.alloc (.cells #[.slice aW nW cW] 85)).alloc (.cells #[.slice none 0 0] 85)).alloc (.cells #[.slice aW nW cW] 85)) := (((Below.refl _ w).alloc (Nat.le_refl _) _).alloc (by simp) _).alloc (by simp; omega) _
 refine wpIn_rangeFunc_ownH (F := Fence.wide) rfl (by omega) (gf := 179) (lb := #[.pointer (some ⟨w.heap.size + 1 + 1, 0, none⟩)]) rfl trivial (enters_of Tryz.func179 (by kernel_rfl) rfl)
  (back_stops Fence.wide (5 - 1) trivial rfl (by omega) (w.heap.size + 1 + 1) (w.heap.size + 3) aW nW cW hnW da dl dc _ (by simp) (by omega) (by simp) bN.cell ⟨(hI.below hB0).c.imp id (fun ⟨b, off, e, hb, hc⟩ => ⟨b, off, e, by omega, hc⟩)⟩) belowK_t (belowK_b (by simp)) (Below.refl _ _) (fun _ => rfl)
  (fun pre W => ((∀ y ∈ pre, dl (min y (nW - 1)) = 0) ∧ W.cell? ⟨w.heap.size, 0, none⟩ = some (.slice aW nW cW) ∧ W.cell? ⟨w.heap.size + 1, 0, none⟩ = some (.slice none 0 0) ∧ W.frozen? ⟨w.heap.size + 1, 0, none⟩ = false ∧ W.cell? ⟨w.heap.size + 1 + 1, 0, none⟩ = some (.slice aW nW cW)) ∧ Below w.heap.size w W)
  (fun c pre W => (c = .ret ∧ ∃ ini last, pre = ini ++ [last] ∧ (∀ y ∈ ini, dl (min y (nW - 1)) = 0) ∧ dl (min last (nW - 1)) ≠ 0 ∧ W.cell? ⟨w.heap.size + 1, 0, none⟩ = some (.slice aW (min last (nW - 1) + 1) cW)) ∧ Below w.heap.size w W)
  (OwnFrom.and (Own.from (fun s A B row hs hg hr => ⟨hs.1, cell_kept hs.2.1 hg hr, cell_kept hs.2.2.1 hg hr, (frozen_kept hs.2.2.1 hg hr).trans hs.2.2.2.1, cell_kept hs.2.2.2.2 hg hr⟩) _) (ownFrom_below (Nat.le_refl _) (by simp; omega)))
  (fun c => OwnFrom.and (Own.from (fun s A B row hs hg hr => by obtain ⟨hc, ini, last, e1, e2, e3, e4⟩ := hs; exact ⟨hc, ini, last, e1, e2, e3, cell_kept e4 hg hr⟩) _) (ownFrom_below (Nat.le_refl _) (by simp; omega)))
  ⟨⟨by simp, ((bA.alloc _).alloc _).cell, (bR.alloc _).cell, (bR.alloc _).frozen, bN.cell⟩, hB0⟩
  (fun x a' W => a' = { tmps := #[.slice aW nW cW, .pointer (some ⟨w.heap.size, 0, none⟩), .pointer (some ⟨w.heap.size + 1, 0, none⟩), .int .i64 ((min x (nW - 1) : Nat) : Int), .slice (da (min x (nW - 1))) (dl (min x (nW - 1))) (dc (min x (nW - 1))), .slice aW nW cW, .func (.func 179) #[] #[.pointer (some ⟨w.heap.size + 1 + 1, 0, none⟩)], .int .i64 ((min x (nW - 1) : Nat) : Int), .slice (da (min x (nW - 1))) (dl (min x (nW - 1))) (dc (min x (nW - 1))), undef, undef, undef, undef, undef, undef, undef], defers := [] })
  (fun x a' => Own.from (fun s A B row hs hg hr => hs) _)
  ?assign ?body ?done ?stop
 case assign =>
  rintro l pre x W K ⟨⟨hp, hca, hcr, hfr, hcn⟩, hB⟩ hK
  unfold enB
  generalize min x (nW - 1) = y at *
  gi_wp2
  exact hK _ _ (KeepsFrom.refl _ _) (Below.refl _ _) ⟨⟨hp, hca, hcr, hfr, hcn⟩, hB⟩ rfl
 case body =>
  rintro l pre x a' W hl hlr ⟨⟨hp, hca, hcr, hfr, hcn⟩, hB⟩ rfl hlt
  obtain ⟨y, hy⟩ : ∃ y, min x (nW - 1) = y := ⟨_, rfl⟩
  have hyn : y < nW := by omega
  have hyn' : (y : Int) < (nW : Int) := by omega
  have hyc : y + 1 ≤ cW := by omega
  have hyc' : (y : Int) + 1 ≤ (cW : Int) := by omega
  have hy0 : (0 : Int) ≤ (y : Int) := by omega
  have HY := hid hy
  rw [hy]
  clear hy
  obtain ⟨z, hz⟩ : ∃ z, dl y = z := ⟨_, rfl⟩
  rw [hz]
  have HZ := hid hz
  clear hz
  by_cases hz0 : z = 0
  · subst hz0
    gi_wp2_with (refine ⟨trivial, ?_⟩; gi_at_call 123; refine (CallsIn.inRound l ((callsIn_wide (n := _)).2 (impl_isFree _ _ _ _))).mono ?_; rintro e w' ⟨rfl, rfl⟩)
    exact ⟨KeepsFrom.refl _ _, Below.refl _ _, ⟨fun y hy => (List.mem_append.1 hy).elim (hp y) (fun e => by simp at e; subst e; rw [HY.out]; exact HZ.out), hca, hcr, hfr, hcn⟩, hB⟩
  · have q0 : decide (z = 0) = false := decide_eq_false hz0
    have HZ0 := hid hz0
    clear hz0
    rcases hI.c with h0 | ⟨b, off, rfl, _, _⟩
    · omega
    gi_wp2_with (refine ⟨trivial, ?_⟩; gi_at_call 123; refine (CallsIn.inRound l ((callsIn_wide (n := _)).2 (impl_isFree _ _ _ _))).mono ?_; rintro e w' ⟨rfl, rfl⟩)
    exact ⟨(KeepsOthers.setCell _ _ _).from _, ⟨rfl, pre, x, rfl, hp, by rw [HY.out, HZ.out]; exact HZ0.out, by rw [HY.out]; exact World.cell?_setCell_same' _ _ _ (by rw [hcr]; rfl)⟩, hB.setCell (p := ⟨w.heap.size + 1, 0, none⟩) (by simp) _⟩
 case done =>
  rintro Dd ys W hD rfl ⟨⟨hne, hca, hcr, hfr, hcn⟩, hB⟩ hK
  have HNE := hid hne
  have HKK := hid hK
  have HBB := hid hB
  clear hne hK hB hca hcn
  gi_wp2
  have HK2 : (W.setCell ⟨w.heap.size + 1, 0, none⟩ (.slice none 0 0)).heap[Dd]? = some (.deferred (some [])) := (KeepsOthers.setCell W ⟨w.heap.size + 1, 0, none⟩ (.slice none 0 0)).same Dd _ HKK.out rfl
  refine ⟨by simp, .inl ⟨_, _, rfl, run_takeDeferred HK2, ?_⟩⟩
  have hc5 := cell_kept (W := W.setCell ⟨w.heap.size + 1, 0, none⟩ (.slice none 0 0)) (World.cell?_setCell_same' W ⟨w.heap.size + 1, 0, none⟩ (.slice none 0 0) (by rw [hcr]; rfl)) (grownBy_putObj' _ Dd (.deferred none)) (fun r e => by cases e; exact ⟨_, HK2, rfl⟩)
  refine ⟨.slice none 0 0, ?_, .inl ⟨rfl, fun j hj => ?_⟩, (HBB.out.setCell (p := ⟨w.heap.size + 1, 0, none⟩) (by simp) _).trans (belowK_b (w := w) (Nat.le_refl _) _ Dd _ _ (by simp at hD; omega) HK2 rfl rfl)⟩
  · simp [results, Tryz.f154, go_sem, hc5]
  · have := HNE.out j (by simp only [dn, List.mem_map, List.mem_range]; exact ⟨nW - 1 - j, by omega, by omega⟩)
    rwa [show min j (nW - 1) = j by omega] at this
 case stop =>
  rintro Dd c pre W hD ⟨k, hk, rfl⟩ ⟨⟨rfl, ini, last, e1, e2, e3, hcr⟩, hB⟩ hK
  gi_wp2
  refine ⟨by simp, .inl ⟨_, _, rfl, run_takeDeferred hK, ?_⟩⟩
  have hc5 := cell_kept hcr (grownBy_putObj' _ Dd (.deferred none)) (fun r e => by cases e; exact ⟨_, hK, rfl⟩)
  obtain ⟨k', rfl⟩ : ∃ k', k = k' + 1 := by
   cases k with
   | zero => simp [dn] at e1
   | succ k' => exact ⟨k', rfl⟩
  rw [dn_succ] at e1
  obtain ⟨rfl, e5⟩ := List.append_inj' e1 rfl
  obtain rfl : nW - 1 - k' = last := by simpa using e5
  have e6 : min (nW - 1 - k') (nW - 1) = nW - 1 - k' := by omega
  rw [e6] at e3 hc5
  refine ⟨.slice aW (nW - 1 - k' + 1) cW, ?_, .inr ⟨nW - 1 - k', by omega, rfl, e3, fun j hj hjn => ?_⟩, hB.trans (belowK_b (w := w) (Nat.le_refl _) W Dd _ _ (by simp at hD; omega) hK rfl rfl)⟩
  · simp [results, Tryz.f154, go_sem, hc5]
  · have := e2 j (by simp only [dn, List.mem_map, List.mem_range]; exact ⟨nW - 1 - j, by omega, by omega⟩)
    rwa [show min j (nW - 1) = j by omega] at this
theorem impl_without {a : Option Addr} {n : Nat} (c : Nat) {ts : List (List Int)} {xs : List Value} {lo : Nat} {w : World} (hl : ts.length = n) (hn : n ≤ 1048576) (ho : w.ownsRow lo 22 1 (.slice a n c) n xs) (hb : Bands w lo w.heap.size xs ts) :
 Calls Tryz.prog 154 #[.slice a n c] w fun e w' => ∃ a' c', e = .returned (.slice a' (trimP ts).length c') ∧ OwnP w' lo w.heap.size (.slice a' (trimP ts).length c') (trimP ts) ∧ Below w.heap.size w w' := by
 have hcap : n ≤ c := by
  rcases ho.2 with ⟨e, e0⟩ | ⟨g', cap, cur, e, _, _, h1, _⟩
  · omega
  · obtain ⟨_, _, rfl⟩ := Value.slice.inj e; exact h1
 have hI : ByS w w.heap.size a n (fun j => match xs.getD j nilS with | .slice x _ _ => x | _ => none) (fun j => (ts.getD j []).length) (fun j => match xs.getD j nilS with | .slice _ _ x => x | _ => 0) := by
  refine ⟨?_⟩
  rcases ho.2 with ⟨_, e0⟩ | ⟨g, cap, cur, e, _, hg, _⟩
  · exact .inl e0
  · obtain ⟨rfl, _, rfl⟩ := Value.slice.inj e
    refine .inr ⟨g, 0, rfl, (Array.getElem?_eq_some_iff.1 hg).1, fun j hj => ?_⟩
    rw [Nat.zero_add, cell_getD ho hj]
    obtain ⟨x, y, e, _⟩ := hb.row j
    rw [e]
 refine (without_walk c hn _ _ _ hI hcap).mono ?_
 rintro e w' ⟨h1 | ⟨k, hk, rfl, h2, h3⟩, b⟩
 · obtain ⟨rfl, h1⟩ := h1
   rw [trimP_all (fun j hj => h1 j (by omega))]
   exact ⟨none, 0, rfl, OwnP.nil _ _ _, b⟩
 · rw [trimP_stop (by omega) h2 (fun j h4 h5 => h3 j h4 (by omega))]
   rcases ho.2 with ⟨_, e0⟩ | ⟨g, cap, cur, e, hbg, hg, hnc, hcm, hcs, ht⟩
   · omega
   obtain ⟨rfl, _, rfl⟩ := Value.slice.inj e
   have hxl := ho.1
   have o1 : w.ownsRow lo 22 1 (.slice (some ⟨g, 0, none⟩) (k + 1) c) (k + 1) (xs.take (k + 1)) := by
    refine ⟨by simp; omega, .inr ⟨g, c, cur, rfl, hbg, hg, by omega, hcm, hcs, ?_⟩⟩
    have : (cur.toList.take (n * 1)).take ((k + 1) * 1) = xs.take ((k + 1) * 1) := by rw [ht]
    rw [List.take_take, Nat.min_eq_left (by omega)] at this
    simpa using this
   have b1 : Bands w lo w.heap.size (xs.take (k + 1)) (ts.take (k + 1)) := by
    have := hb
    rw [← List.take_append_drop (k + 1) xs, ← List.take_append_drop (k + 1) ts] at this
    have hl2 := hb.len
    exact this.left (by simp; omega)
   have e7 : (ts.take (k + 1)).length = k + 1 := by simp; omega
   refine ⟨_, c, by rw [e7], ?_, b⟩
   have : OwnP w lo w.heap.size (.slice (some ⟨g, 0, none⟩) (ts.take (k + 1)).length c) (ts.take (k + 1)) := ⟨⟨_, by rw [e7]; exact o1, b1⟩, fun q hq => by rw [e7] at hq; exact (o1.lt q hq).2⟩
   exact this.below b (Nat.le_refl _)
end Go.Proofs.YtkfhfjghfadofaaGreat
/- The contract of the program's with: a page's slots copied, one laid in, free ones at the end left out. Conditions: at most 2^20 slots of at most 2^20 bytes. -/

namespace Go.Proofs.YtkfhfjghfadofaaGreat
open Go.RowKit
set_option maxRecDepth 100000
theorem set_rep {α : Type} (xs : List α) (k n : Nat) (z v : α) (hx : xs.length = k) (hk : k < n) : (xs ++ List.replicate (n - k) z).set k v = (xs ++ [v]) ++ List.replicate (n - (k + 1)) z := by
 rw [List.set_append_right _ _ (by omega), hx, Nat.sub_self, show n - k = (n - (k + 1)) + 1 by omega, List.replicate_succ, List.set_cons_zero]
 simp
theorem Bands.nils (w : World) (lo hi N : Nat) : Bands w lo hi (List.replicate N nilS) (List.replicate N []) := by
 induction N with
 | zero => exact Bands.nil w lo hi
 | succ N ih =>
  rw [List.replicate_succ', List.replicate_succ']
  refine ⟨by simp, fun i => ?_, ?_, ?_, fun i j => ?_⟩
  · rw [getD_app, getD_app]
    simp only [List.length_replicate]
    split
    · exact ih.own i
    · have e1 : [nilS].getD (i - N) nilS = nilS := by
       cases i - N <;> simp
      have e2 : ([[]] : List (List Int)).getD (i - N) [] = [] := by
       cases i - N <;> simp
      rw [e1, e2]
      exact World.ownsRow_nil w lo 5 1
  · intro x hx g hg
    have : x = nilS := by
     rcases List.mem_append.1 hx with h | h
     · exact (List.mem_replicate.1 h).2
     · simpa using h
    subst this
    cases hg
  · rw [← List.replicate_succ']
    refine List.pairwise_replicate.2 (.inr ?_)
    exact .inl rfl
  · rw [getD_app]
    simp only [List.length_replicate]
    split
    · exact ih.bd i j
    · have e2 : ([[]] : List (List Int)).getD (i - N) [] = [] := by
       cases i - N <;> simp
      rw [e2]; simp
theorem reads_one {w : World} {g : Nat} {v : Value} {z : List Int} {t : TypeId} (h : w.heap[g]? = some (.cells #[v] t (0, 0))) (r : Row w v z) : ReadsS w (some ⟨g, 0, none⟩) [z] := by
 refine ⟨.inr ⟨g, 0, rfl, fun i hi => ?_⟩⟩
 obtain rfl : i = 0 := by simp at hi; omega
 exact ⟨v, by rw [cell_of_row _ _ _ _ _ _ h]; rfl, r⟩
set_option maxHeartbeats 6400000 in
theorem impl_with (L : Int) {a : Option Addr} {n : Nat} (c : Nat) {ss : List (List Int)} (q : Nat) {ad : Option Addr} {nd : Nat} (cd : Nat) {zs : List Int} (lsn : Int) {w : World} (h : ReadsS w a ss) (hl : ss.length = n) (hn : n ≤ 1048575) (hb : ∀ i, (ss.getD i []).length ≤ 1048576) (hq : q < 1048576) (hd : Reads w ad nd zs) (hnil : ad = none → cd = 0) (hnd : nd ≤ 1048576) :
 Calls Tryz.prog 114 #[.agg #[.int .i64 L, .slice a n c], .int .i64 (q : Int), .slice ad nd cd, .int .i64 lsn] w fun e w' => ∃ a' c', e = .returned (.agg #[.int .i64 lsn, .slice a' (trimP (layP ss q zs)).length c']) ∧ OwnP w' w.heap.size w'.heap.size (.slice a' (trimP (layP ss q zs)).length c') (trimP (layP ss q zs)) ∧ Below w.heap.size w w' := by
 obtain ⟨i0, hi, hz0, hz1, hz2⟩ := info_parts Tryz.info22
 have HNI := hid hnil
 have HDL := hid hd.len
 have HB := hid (two w (.cells #[.int .i64 L, .slice a n c] 87) (.cells #[.int .i64 0, .slice none 0 0] 87))
 have HX := hid (show ArgP _ _ _ _ _ _ _ from (ArgP.new L n c h 87 w.heap.size rfl).alloc (.cells #[.int .i64 0, .slice none 0 0] 87))
 have R1 := hid (heap_new2 w (.cells #[.int .i64 L, .slice a n c] 87) (.cells #[.int .i64 0, .slice none 0 0] 87))
 have HSZ := hid (show ((w.alloc (.cells #[.int .i64 L, .slice a n c] 87)).alloc (.cells #[.int .i64 0, .slice none 0 0] 87)).heap.size = w.heap.size + 2 by simp)
 have HD0 := hid hd
 have H0 := hid h
 have HSB := hid hb
 clear h hd hnil hb
 by_cases hm : (n : Int) < (q : Int) + 1
 · have hNN : n ≤ (q + 1) := by omega
   have hN2 : q < (q + 1) := by omega
   have hN3 : (q + 1) ≤ 1048576 := by omega
   have HMX : Hid ((q + 1) - n = q + 1 - n) := hid (by omega)
   go_enter Tryz.func114, Tryz.ntmps114
   go_wp2_with (at_make; refine wpList_make_full _ rfl _ _ 85 rfl (w.heap.size + 2) 22 i0 (.slice none 0 0) 1 Tryz.underlying85 hi hz0 hz1 _ _ _ _ ((q + 1)) rfl rfl (by omega) (by omega) ?b2 ?b3 ?b4 ?_)
   case b2 => omega
   case b3 => unfold maxLen; omega
   intro w0 hown0 hgrow0
   rw [toList_madeCells_one] at hown0
   have b := (Below.refl ((w.alloc (.cells #[.int .i64 L, .slice a n c] 87)).alloc (.cells #[.int .i64 0, .slice none 0 0] 87)).heap.size ((w.alloc (.cells #[.int .i64 L, .slice a n c] 87)).alloc (.cells #[.int .i64 0, .slice none 0 0] 87))).grown hgrow0 (Nat.le_refl _) (fun k h => by cases h)
   have HX1 := hid (HX.out.below b (Nat.le_refl _))
   have R2 := hid ((b.block _ (by have := HSZ.out; omega)).trans R1.out)
   have HB1 := hid (HB.out.trans (b.mono HB.out.size))
   have HSZ1 := hid (show w.heap.size + 2 ≤ w0.heap.size by have := HSZ.out; have := b.size; omega)
   have HO := hid (show w0.ownsRow (w.heap.size + 2) 22 1 (.slice (some ⟨w.heap.size + 1 + 1, 0, none⟩) ((q + 1)) ((q + 1))) ((q + 1)) (List.replicate ((q + 1)) nilS) from by simpa [nilS] using hown0)
   clear hm hown0 hgrow0 b
   obtain ⟨c0, c1⟩ := HX1.out.box
   go_wp2_with fail
   clear c0 c1
   go_loopw [22] (fun i wr => ∃ (k : Nat) (xs : List Value), k ≤ n ∧ i = .int .i64 k ∧ Hid (wr.ownsRow (w.heap.size + 2) 22 1 (.slice (some ⟨w.heap.size + 1 + 1, 0, none⟩) ((q + 1)) ((q + 1))) ((q + 1)) xs) ∧ Hid (Bands wr (w.heap.size + 2) wr.heap.size xs (ss.take k ++ List.replicate ((q + 1) - k) [])) ∧ Hid (wr.heap[w.heap.size + 1]? = some (.cells #[.int .i64 0, .slice none 0 0] 87)) ∧ Hid (Below w.heap.size w wr) ∧ Hid (w.heap.size + 2 ≤ wr.heap.size)) (fun i _ => n - (intOf i).toNat)
   case atStart => exact ⟨0, List.replicate ((q + 1)) nilS, Nat.zero_le _, rfl, HO, hid (by rw [List.take_zero, List.nil_append, Nat.sub_zero]; exact Bands.nils _ _ _ _), R2, HB1, HSZ1⟩
   case round =>
    clear HX1 R2 HB1 HSZ1 HO
    obtain ⟨k, xs, hk, rfl, hown, hB, R2, hnx, hsz⟩ := hrel
    by_cases hlt : k < n
    · have hlt' : (k : Int) < (n : Int) := by omega
      have hk0 : (0 : Int) ≤ (k : Int) := by omega
      have hkN : (k : Int) < (((q + 1) : Nat) : Int) := by omega
      rcases H0.out.cells with h0 | ⟨b, off, rfl, hc⟩
      · omega
      obtain ⟨v, hcx0, ax, cx, rfl, hr0, hnil, hmx⟩ := hc k (by omega)
      have hbl := World.block_lt_of_cell? w _ hcx0
      have hcx : wr.cell? ⟨b, off + k, none⟩ = some (.slice ax (ss.getD k []).length cx) := (hnx.out.cell (by exact hbl)).trans hcx0
      have hrow := hid (show Row w (.slice ax (ss.getD k []).length cx) (ss.getD k []) from ⟨ax, cx, rfl, hr0, hnil, hmx⟩)
      have HT := hid (take_snoc ss k [] (by omega))
      have HBD := hid hr0.bd
      have hlen := HSB.out k
      generalize ss.getD k [] = zk at *
      obtain ⟨m, hm⟩ : ∃ m, zk.length = m := ⟨_, rfl⟩
      have HM := hid hm
      rw [hm] at hcx hlen
      clear hc hcx0 hr0 hnil hmx hm hbl
      go_wp2_with fail
      have bX := Below.alloc1 wr (.cells #[.slice ax m cx] 22)
      have RX := reads_one (heap_alloc_new wr (.cells #[.slice ax m cx] 22)) (show Row _ _ zk from by have := hrow.out.below ((hnx.out.trans (bX.mono hnx.out.size))) (Nat.le_refl _); rw [HM.out] at this; exact this)
      refine (impl_joined (m := 1) 1 RX rfl (by omega) (by simp [tot]; have := HM.out; omega)).mono ?_
      rintro e w1 ⟨v1, rfl, o, b1⟩
      have b2 := (bX.trans (b1.mono bX.size))
      have o2 : w1.ownsRow wr.heap.size 5 1 v1 zk.length (bys zk) := owns_lower (by simpa [tot] using o) bX.size
      have hown1 := owns_below b2 (Nat.le_refl _) hown.out
      have hcy : ∃ v, w1.cell? ⟨w.heap.size + 1 + 1, k, none⟩ = some v := ⟨_, (hown1.cellAt k (by omega)).trans (List.getElem?_eq_getElem (by have := hown1.1; omega))⟩
      obtain ⟨v, hcy⟩ := hcy
      have hfr : w1.frozen? ⟨w.heap.size + 1 + 1, k, none⟩ = false := hown1.frozenAt k
      obtain ⟨av, cv, rfl⟩ := own_sl o2
      have R := hown1.stored k (.slice av zk.length cv)
      have hB1 := (hB.out.agree (Agree.below b2 (Nat.le_refl _))).swap (i := k) hsz.out b2.size (by simp; omega) o2 HBD.out (Nat.le_refl _)
      rw [set_rep _ k ((q + 1)) [] zk (by simp; omega) (by omega), ← HT.out] at hB1
      have HB2 := hid ((hB1.beside R.2 (fun i => owns_ne (hB1.own i) hown1 (by decide))).mono (Nat.le_refl _) R.2.size)
      have HR := hid R.1
      have R3 := hid ((R.2.block _ (by have := hsz.out; have := b2.size; omega) (by simp)).trans ((b2.block _ (by have := hsz.out; omega)).trans R2.out))
      have HN2 := hid ((hnx.out.trans (b2.mono hnx.out.size)).setCell (p := ⟨w.heap.size + 1 + 1, k, none⟩) (by show w.heap.size ≤ w.heap.size + 1 + 1; omega) (.slice av zk.length cv))
      have HS2 := hid (show w.heap.size + 2 ≤ (w1.setCell ⟨w.heap.size + 1 + 1, k, none⟩ (.slice av zk.length cv)).heap.size by rw [set_size]; have := hsz.out; have := b2.size; omega)
      clear bX RX o b1 b2 o2 hown1 R hB1 hown hB R2 hnx hsz hcx
      go_wp2_with fail
      go_roundw
      case rel => exact ⟨k + 1, xs.set k (.slice av zk.length cv), by omega, by go_num, HR, HB2, R3, HN2, HS2⟩
      case measure => simp [intOf]; omega
    · have hlt' : ¬ (k : Int) < (n : Int) := by omega
      obtain rfl : n = k := by omega
      have hqN : (q : Int) < (((q + 1) : Nat) : Int) := by omega
      have hq0 : (0 : Int) ≤ (q : Int) := by omega
      have HL0 := hid (show (ss ++ List.replicate ((q + 1) - n) []).set q zs = layP ss q zs by unfold layP; rw [hl]; first | done | rw [HMX.out])
      go_wp2_with fail
      have bX := Below.alloc1 wr (.cells #[.slice ad nd cd] 22)
      have RX := reads_one (heap_alloc_new wr (.cells #[.slice ad nd cd] 22)) (show Row _ _ zs from ⟨ad, cd, by rw [HDL.out], by rw [HDL.out]; exact HD0.out.below (hnx.out.trans (bX.mono hnx.out.size)) (Nat.le_refl _), HNI.out, by have := HDL.out; unfold maxLen; omega⟩)
      refine (impl_joined (m := 1) 1 RX rfl (by omega) (by simp [tot]; have := HDL.out; omega)).mono ?_
      rintro e w1 ⟨v1, rfl, o, b1⟩
      have b2 := (bX.trans (b1.mono bX.size))
      have o2 : w1.ownsRow wr.heap.size 5 1 v1 zs.length (bys zs) := owns_lower (by simpa [tot] using o) bX.size
      have hown1 := owns_below b2 (Nat.le_refl _) hown.out
      have hcy : ∃ v, w1.cell? ⟨w.heap.size + 1 + 1, q, none⟩ = some v := ⟨_, (hown1.cellAt q (by omega)).trans (List.getElem?_eq_getElem (by have := hown1.1; omega))⟩
      obtain ⟨v, hcy⟩ := hcy
      have hfr : w1.frozen? ⟨w.heap.size + 1 + 1, q, none⟩ = false := hown1.frozenAt q
      obtain ⟨av, cv, rfl⟩ := own_sl o2
      have R := hown1.stored q (.slice av zs.length cv)
      have hBt := hB.out
      rw [List.take_of_length_le (by omega)] at hBt
      have hB1 := (hBt.agree (Agree.below b2 (Nat.le_refl _))).swap (i := q) hsz.out b2.size (by simp; omega) o2 HD0.out.bd (Nat.le_refl _)
      rw [HL0.out] at hB1
      have HB2 := hid ((hB1.beside R.2 (fun i => owns_ne (hB1.own i) hown1 (by decide))).mono (Nat.le_refl _) R.2.size)
      have HR := hid R.1
      have R3 := hid ((R.2.block _ (by have := hsz.out; have := b2.size; omega) (by simp)).trans ((b2.block _ (by have := hsz.out; omega)).trans R2.out))
      have HN2 := hid ((hnx.out.trans (b2.mono hnx.out.size)).setCell (p := ⟨w.heap.size + 1 + 1, q, none⟩) (by show w.heap.size ≤ w.heap.size + 1 + 1; omega) (.slice av zs.length cv))
      have HS2 := hid (show w.heap.size + 2 ≤ (w1.setCell ⟨w.heap.size + 1 + 1, q, none⟩ (.slice av zs.length cv)).heap.size by rw [set_size]; have := hsz.out; have := b2.size; omega)
      clear bX RX o b1 b2 o2 hown1 R hB1 hBt hown hB R2 hnx hsz
      go_wp2_with fail
      clear hcy hfr
      generalize w1.setCell ⟨w.heap.size + 1 + 1, q, none⟩ (.slice av zs.length cv) = W5 at *
      refine (impl_without ((q + 1)) (ts := layP ss q zs) (by rw [layP_length, hl]; omega) (by omega) HR.out HB2.out).mono ?_
      rintro e W6 ⟨a6, c6, rfl, o6, b6⟩
      have hz6 := b6.size
      have HO6 := hid (o6.mono (lo' := w.heap.size + 2) (hi' := W6.heap.size) (Nat.le_refl _) hz6)
      have R6 := hid ((b6.block _ (by have := HS2.out; omega)).trans R3.out)
      have HB6 := hid (HN2.out.trans (b6.mono HN2.out.size))
      have HS6 := hid (show w.heap.size + 2 ≤ W6.heap.size by have := HS2.out; omega)
      obtain ⟨m6, hm6⟩ : ∃ m6, (trimP (layP ss q zs)).length = m6 := ⟨_, rfl⟩
      have HM6 := hid hm6
      rw [hm6] at HO6 ⊢
      clear o6 b6 hz6 hm6 HR HB2 R3 HN2 HS2
      have T1 := heap_setCell_same W6 (w.heap.size + 1) 0 _ 87 (.int .i64 lsn) R6.out
      have T2 := hid (heap_setCell_same _ (w.heap.size + 1) 1 _ 87 (.slice a6 m6 c6) T1)
      have B6 := hid ((HB6.out.setCell (p := ⟨w.heap.size + 1, 0, none⟩) (by simp) (.int .i64 lsn)).setCell (p := ⟨w.heap.size + 1, 1, none⟩) (by simp) (.slice a6 m6 c6))
      have O6 := hid (HO6.out.agree (w' := (W6.setCell ⟨w.heap.size + 1, 0, none⟩ (.int .i64 lsn)).setCell ⟨w.heap.size + 1, 1, none⟩ (.slice a6 m6 c6)) (fun k h1 _ => (heap_set_ne _ _ _ _ _ (by omega)).trans (heap_set_ne _ _ _ _ _ (by omega))))
      have r0 : W6.cell? ⟨w.heap.size + 1, 0, none⟩ = some (.int .i64 0) := cell_of_row _ _ 0 _ _ _ R6.out
      have r1 : W6.cell? ⟨w.heap.size + 1, 1, none⟩ = some (.slice none 0 0) := cell_of_row _ _ 1 _ _ _ R6.out
      have rf0 : W6.frozen? ⟨w.heap.size + 1, 0, none⟩ = false := frozen_of_row _ _ _ _ _ R6.out
      have rf1 : W6.frozen? ⟨w.heap.size + 1, 1, none⟩ = false := frozen_of_row _ _ _ _ _ R6.out
      clear T1
      go_wp2_with fail
      exact bodyPost_ret (results_cell_row Tryz.results114 _ _ (w.heap.size + 1) 87 _ (0, 0) _ rfl T2.out Tryz.underlying87 rfl size_pg) rfl ⟨a6, c6, by rw [HM6.out]; rfl, by rw [HM6.out]; exact O6.out.mono (by omega) (by simp only [set_size]; exact Nat.le_refl _), B6.out⟩
 · have hNN : n ≤ n := by omega
   have hN2 : q < n := by omega
   have hN3 : n ≤ 1048576 := by omega
   have HMX : Hid (n - n = q + 1 - n) := hid (by omega)
   go_enter Tryz.func114, Tryz.ntmps114
   go_wp2_with (at_make; refine wpList_make_full _ rfl _ _ 85 rfl (w.heap.size + 2) 22 i0 (.slice none 0 0) 1 Tryz.underlying85 hi hz0 hz1 _ _ _ _ (n) rfl rfl (by omega) (by omega) ?b2 ?b3 ?b4 ?_)
   case b2 => omega
   case b3 => unfold maxLen; omega
   intro w0 hown0 hgrow0
   rw [toList_madeCells_one] at hown0
   have b := (Below.refl ((w.alloc (.cells #[.int .i64 L, .slice a n c] 87)).alloc (.cells #[.int .i64 0, .slice none 0 0] 87)).heap.size ((w.alloc (.cells #[.int .i64 L, .slice a n c] 87)).alloc (.cells #[.int .i64 0, .slice none 0 0] 87))).grown hgrow0 (Nat.le_refl _) (fun k h => by cases h)
   have HX1 := hid (HX.out.below b (Nat.le_refl _))
   have R2 := hid ((b.block _ (by have := HSZ.out; omega)).trans R1.out)
   have HB1 := hid (HB.out.trans (b.mono HB.out.size))
   have HSZ1 := hid (show w.heap.size + 2 ≤ w0.heap.size by have := HSZ.out; have := b.size; omega)
   have HO := hid (show w0.ownsRow (w.heap.size + 2) 22 1 (.slice (some ⟨w.heap.size + 1 + 1, 0, none⟩) (n) (n)) (n) (List.replicate (n) nilS) from by simpa [nilS] using hown0)
   clear hm hown0 hgrow0 b
   obtain ⟨c0, c1⟩ := HX1.out.box
   go_wp2_with fail
   clear c0 c1
   go_loopw [22] (fun i wr => ∃ (k : Nat) (xs : List Value), k ≤ n ∧ i = .int .i64 k ∧ Hid (wr.ownsRow (w.heap.size + 2) 22 1 (.slice (some ⟨w.heap.size + 1 + 1, 0, none⟩) (n) (n)) (n) xs) ∧ Hid (Bands wr (w.heap.size + 2) wr.heap.size xs (ss.take k ++ List.replicate (n - k) [])) ∧ Hid (wr.heap[w.heap.size + 1]? = some (.cells #[.int .i64 0, .slice none 0 0] 87)) ∧ Hid (Below w.heap.size w wr) ∧ Hid (w.heap.size + 2 ≤ wr.heap.size)) (fun i _ => n - (intOf i).toNat)
   case atStart => exact ⟨0, List.replicate (n) nilS, Nat.zero_le _, rfl, HO, hid (by rw [List.take_zero, List.nil_append, Nat.sub_zero]; exact Bands.nils _ _ _ _), R2, HB1, HSZ1⟩
   case round =>
    clear HX1 R2 HB1 HSZ1 HO
    obtain ⟨k, xs, hk, rfl, hown, hB, R2, hnx, hsz⟩ := hrel
    by_cases hlt : k < n
    · have hlt' : (k : Int) < (n : Int) := by omega
      have hk0 : (0 : Int) ≤ (k : Int) := by omega
      have hkN : (k : Int) < ((n : Nat) : Int) := by omega
      rcases H0.out.cells with h0 | ⟨b, off, rfl, hc⟩
      · omega
      obtain ⟨v, hcx0, ax, cx, rfl, hr0, hnil, hmx⟩ := hc k (by omega)
      have hbl := World.block_lt_of_cell? w _ hcx0
      have hcx : wr.cell? ⟨b, off + k, none⟩ = some (.slice ax (ss.getD k []).length cx) := (hnx.out.cell (by exact hbl)).trans hcx0
      have hrow := hid (show Row w (.slice ax (ss.getD k []).length cx) (ss.getD k []) from ⟨ax, cx, rfl, hr0, hnil, hmx⟩)
      have HT := hid (take_snoc ss k [] (by omega))
      have HBD := hid hr0.bd
      have hlen := HSB.out k
      generalize ss.getD k [] = zk at *
      obtain ⟨m, hm⟩ : ∃ m, zk.length = m := ⟨_, rfl⟩
      have HM := hid hm
      rw [hm] at hcx hlen
      clear hc hcx0 hr0 hnil hmx hm hbl
      go_wp2_with fail
      have bX := Below.alloc1 wr (.cells #[.slice ax m cx] 22)
      have RX := reads_one (heap_alloc_new wr (.cells #[.slice ax m cx] 22)) (show Row _ _ zk from by have := hrow.out.below ((hnx.out.trans (bX.mono hnx.out.size))) (Nat.le_refl _); rw [HM.out] at this; exact this)
      refine (impl_joined (m := 1) 1 RX rfl (by omega) (by simp [tot]; have := HM.out; omega)).mono ?_
      rintro e w1 ⟨v1, rfl, o, b1⟩
      have b2 := (bX.trans (b1.mono bX.size))
      have o2 : w1.ownsRow wr.heap.size 5 1 v1 zk.length (bys zk) := owns_lower (by simpa [tot] using o) bX.size
      have hown1 := owns_below b2 (Nat.le_refl _) hown.out
      have hcy : ∃ v, w1.cell? ⟨w.heap.size + 1 + 1, k, none⟩ = some v := ⟨_, (hown1.cellAt k (by omega)).trans (List.getElem?_eq_getElem (by have := hown1.1; omega))⟩
      obtain ⟨v, hcy⟩ := hcy
      have hfr : w1.frozen? ⟨w.heap.size + 1 + 1, k, none⟩ = false := hown1.frozenAt k
      obtain ⟨av, cv, rfl⟩ := own_sl o2
      have R := hown1.stored k (.slice av zk.length cv)
      have hB1 := (hB.out.agree (Agree.below b2 (Nat.le_refl _))).swap (i := k) hsz.out b2.size (by simp; omega) o2 HBD.out (Nat.le_refl _)
      rw [set_rep _ k (n) [] zk (by simp; omega) (by omega), ← HT.out] at hB1
      have HB2 := hid ((hB1.beside R.2 (fun i => owns_ne (hB1.own i) hown1 (by decide))).mono (Nat.le_refl _) R.2.size)
      have HR := hid R.1
      have R3 := hid ((R.2.block _ (by have := hsz.out; have := b2.size; omega) (by simp)).trans ((b2.block _ (by have := hsz.out; omega)).trans R2.out))
      have HN2 := hid ((hnx.out.trans (b2.mono hnx.out.size)).setCell (p := ⟨w.heap.size + 1 + 1, k, none⟩) (by show w.heap.size ≤ w.heap.size + 1 + 1; omega) (.slice av zk.length cv))
      have HS2 := hid (show w.heap.size + 2 ≤ (w1.setCell ⟨w.heap.size + 1 + 1, k, none⟩ (.slice av zk.length cv)).heap.size by rw [set_size]; have := hsz.out; have := b2.size; omega)
      clear bX RX o b1 b2 o2 hown1 R hB1 hown hB R2 hnx hsz hcx
      go_wp2_with fail
      go_roundw
      case rel => exact ⟨k + 1, xs.set k (.slice av zk.length cv), by omega, by go_num, HR, HB2, R3, HN2, HS2⟩
      case measure => simp [intOf]; omega
    · have hlt' : ¬ (k : Int) < (n : Int) := by omega
      obtain rfl : n = k := by omega
      have hqN : (q : Int) < ((n : Nat) : Int) := by omega
      have hq0 : (0 : Int) ≤ (q : Int) := by omega
      have HL0 := hid (show (ss ++ List.replicate (n - n) []).set q zs = layP ss q zs by unfold layP; rw [hl]; first | done | rw [HMX.out])
      go_wp2_with fail
      have bX := Below.alloc1 wr (.cells #[.slice ad nd cd] 22)
      have RX := reads_one (heap_alloc_new wr (.cells #[.slice ad nd cd] 22)) (show Row _ _ zs from ⟨ad, cd, by rw [HDL.out], by rw [HDL.out]; exact HD0.out.below (hnx.out.trans (bX.mono hnx.out.size)) (Nat.le_refl _), HNI.out, by have := HDL.out; unfold maxLen; omega⟩)
      refine (impl_joined (m := 1) 1 RX rfl (by omega) (by simp [tot]; have := HDL.out; omega)).mono ?_
      rintro e w1 ⟨v1, rfl, o, b1⟩
      have b2 := (bX.trans (b1.mono bX.size))
      have o2 : w1.ownsRow wr.heap.size 5 1 v1 zs.length (bys zs) := owns_lower (by simpa [tot] using o) bX.size
      have hown1 := owns_below b2 (Nat.le_refl _) hown.out
      have hcy : ∃ v, w1.cell? ⟨w.heap.size + 1 + 1, q, none⟩ = some v := ⟨_, (hown1.cellAt q (by omega)).trans (List.getElem?_eq_getElem (by have := hown1.1; omega))⟩
      obtain ⟨v, hcy⟩ := hcy
      have hfr : w1.frozen? ⟨w.heap.size + 1 + 1, q, none⟩ = false := hown1.frozenAt q
      obtain ⟨av, cv, rfl⟩ := own_sl o2
      have R := hown1.stored q (.slice av zs.length cv)
      have hBt := hB.out
      rw [List.take_of_length_le (by omega)] at hBt
      have hB1 := (hBt.agree (Agree.below b2 (Nat.le_refl _))).swap (i := q) hsz.out b2.size (by simp; omega) o2 HD0.out.bd (Nat.le_refl _)
      rw [HL0.out] at hB1
      have HB2 := hid ((hB1.beside R.2 (fun i => owns_ne (hB1.own i) hown1 (by decide))).mono (Nat.le_refl _) R.2.size)
      have HR := hid R.1
      have R3 := hid ((R.2.block _ (by have := hsz.out; have := b2.size; omega) (by simp)).trans ((b2.block _ (by have := hsz.out; omega)).trans R2.out))
      have HN2 := hid ((hnx.out.trans (b2.mono hnx.out.size)).setCell (p := ⟨w.heap.size + 1 + 1, q, none⟩) (by show w.heap.size ≤ w.heap.size + 1 + 1; omega) (.slice av zs.length cv))
      have HS2 := hid (show w.heap.size + 2 ≤ (w1.setCell ⟨w.heap.size + 1 + 1, q, none⟩ (.slice av zs.length cv)).heap.size by rw [set_size]; have := hsz.out; have := b2.size; omega)
      clear bX RX o b1 b2 o2 hown1 R hB1 hBt hown hB R2 hnx hsz
      go_wp2_with fail
      clear hcy hfr
      generalize w1.setCell ⟨w.heap.size + 1 + 1, q, none⟩ (.slice av zs.length cv) = W5 at *
      refine (impl_without (n) (ts := layP ss q zs) (by rw [layP_length, hl]; omega) (by omega) HR.out HB2.out).mono ?_
      rintro e W6 ⟨a6, c6, rfl, o6, b6⟩
      have hz6 := b6.size
      have HO6 := hid (o6.mono (lo' := w.heap.size + 2) (hi' := W6.heap.size) (Nat.le_refl _) hz6)
      have R6 := hid ((b6.block _ (by have := HS2.out; omega)).trans R3.out)
      have HB6 := hid (HN2.out.trans (b6.mono HN2.out.size))
      have HS6 := hid (show w.heap.size + 2 ≤ W6.heap.size by have := HS2.out; omega)
      obtain ⟨m6, hm6⟩ : ∃ m6, (trimP (layP ss q zs)).length = m6 := ⟨_, rfl⟩
      have HM6 := hid hm6
      rw [hm6] at HO6 ⊢
      clear o6 b6 hz6 hm6 HR HB2 R3 HN2 HS2
      have T1 := heap_setCell_same W6 (w.heap.size + 1) 0 _ 87 (.int .i64 lsn) R6.out
      have T2 := hid (heap_setCell_same _ (w.heap.size + 1) 1 _ 87 (.slice a6 m6 c6) T1)
      have B6 := hid ((HB6.out.setCell (p := ⟨w.heap.size + 1, 0, none⟩) (by simp) (.int .i64 lsn)).setCell (p := ⟨w.heap.size + 1, 1, none⟩) (by simp) (.slice a6 m6 c6))
      have O6 := hid (HO6.out.agree (w' := (W6.setCell ⟨w.heap.size + 1, 0, none⟩ (.int .i64 lsn)).setCell ⟨w.heap.size + 1, 1, none⟩ (.slice a6 m6 c6)) (fun k h1 _ => (heap_set_ne _ _ _ _ _ (by omega)).trans (heap_set_ne _ _ _ _ _ (by omega))))
      have r0 : W6.cell? ⟨w.heap.size + 1, 0, none⟩ = some (.int .i64 0) := cell_of_row _ _ 0 _ _ _ R6.out
      have r1 : W6.cell? ⟨w.heap.size + 1, 1, none⟩ = some (.slice none 0 0) := cell_of_row _ _ 1 _ _ _ R6.out
      have rf0 : W6.frozen? ⟨w.heap.size + 1, 0, none⟩ = false := frozen_of_row _ _ _ _ _ R6.out
      have rf1 : W6.frozen? ⟨w.heap.size + 1, 1, none⟩ = false := frozen_of_row _ _ _ _ _ R6.out
      clear T1
      go_wp2_with fail
      exact bodyPost_ret (results_cell_row Tryz.results114 _ _ (w.heap.size + 1) 87 _ (0, 0) _ rfl T2.out Tryz.underlying87 rfl size_pg) rfl ⟨a6, c6, by rw [HM6.out]; rfl, by rw [HM6.out]; exact O6.out.mono (by omega) (by simp only [set_size]; exact Nat.le_refl _), B6.out⟩
end Go.Proofs.YtkfhfjghfadofaaGreat
/- The contract of the program's copy of a page. Conditions: at most 2^20 slots of at most 2^20 bytes. -/

namespace Go.Proofs.YtkfhfjghfadofaaGreat
open Go.RowKit
set_option maxRecDepth 100000
set_option maxHeartbeats 6400000 in
theorem impl_copied (L : Int) {a : Option Addr} {n : Nat} (c : Nat) {ss : List (List Int)} {w : World} (h : ReadsS w a ss) (hl : ss.length = n) (hn : n ≤ 1048575) (hb : ∀ i, (ss.getD i []).length ≤ 1048576) :
 Calls Tryz.prog 153 #[.agg #[.int .i64 L, .slice a n c]] w fun e w' => ∃ a' c', e = .returned (.agg #[.int .i64 L, .slice a' n c']) ∧ OwnP w' w.heap.size w'.heap.size (.slice a' n c') ss ∧ Below w.heap.size w w' := by
 obtain ⟨i0, hi, hz0, hz1, hz2⟩ := info_parts Tryz.info22
 have HB := hid (two w (.cells #[.int .i64 L, .slice a n c] 87) (.cells #[.int .i64 0, .slice none 0 0] 87))
 have HX := hid (show ArgP _ _ _ _ _ _ _ from (ArgP.new L n c h 87 w.heap.size rfl).alloc (.cells #[.int .i64 0, .slice none 0 0] 87))
 have R1 := hid (heap_new2 w (.cells #[.int .i64 L, .slice a n c] 87) (.cells #[.int .i64 0, .slice none 0 0] 87))
 have R0 := hid (heap_new1 w (.cells #[.int .i64 L, .slice a n c] 87) (.cells #[.int .i64 0, .slice none 0 0] 87))
 have HSZ := hid (show ((w.alloc (.cells #[.int .i64 L, .slice a n c] 87)).alloc (.cells #[.int .i64 0, .slice none 0 0] 87)).heap.size = w.heap.size + 2 by simp)
 have H0 := hid h
 have HSB := hid hb
 clear h hb
 obtain ⟨c0, c1⟩ := HX.out.box
 go_enter Tryz.func153, Tryz.ntmps153
 go_wp2_with (at_make; refine wpList_make_full _ rfl _ _ 85 rfl (w.heap.size + 2) 22 i0 (.slice none 0 0) 1 Tryz.underlying85 hi hz0 hz1 _ _ _ _ n rfl rfl (by omega) (by omega) ?b2 ?b3 ?b4 ?_)
 case b2 => rw [hz2]; omega
 case b3 => unfold maxLen; omega
 case b4 => have := HSZ.out; omega
 clear c0 c1
 intro w0 hown0 hgrow0
 rw [toList_madeCells_one] at hown0
 have b := (Below.refl ((w.alloc (.cells #[.int .i64 L, .slice a n c] 87)).alloc (.cells #[.int .i64 0, .slice none 0 0] 87)).heap.size ((w.alloc (.cells #[.int .i64 L, .slice a n c] 87)).alloc (.cells #[.int .i64 0, .slice none 0 0] 87))).grown hgrow0 (Nat.le_refl _) (fun k h => by cases h)
 have HX1 := hid (HX.out.below b (Nat.le_refl _))
 have R2 := hid ((b.block _ (by have := HSZ.out; omega)).trans R1.out)
 have Q2 := hid ((b.block _ (by have := HSZ.out; omega)).trans R0.out)
 have HB1 := hid (HB.out.trans (b.mono HB.out.size))
 have HSZ1 := hid (show w.heap.size + 2 ≤ w0.heap.size by have := HSZ.out; have := b.size; omega)
 have HO := hid (show w0.ownsRow (w.heap.size + 2) 22 1 (.slice (some ⟨w.heap.size + 1 + 1, 0, none⟩) n n) n (List.replicate n nilS) from by simpa [nilS] using hown0)
 clear hown0 hgrow0 b
 obtain ⟨c0, c1⟩ := HX1.out.box
 go_wp2_with fail
 clear c0 c1
 go_loopw [13] (fun i wr => ∃ (k : Nat) (xs : List Value), k ≤ n ∧ i = .int .i64 k ∧ Hid (wr.ownsRow (w.heap.size + 2) 22 1 (.slice (some ⟨w.heap.size + 1 + 1, 0, none⟩) n n) n xs) ∧ Hid (Bands wr (w.heap.size + 2) wr.heap.size xs (ss.take k ++ List.replicate (n - k) [])) ∧ Hid (wr.heap[w.heap.size + 1]? = some (.cells #[.int .i64 0, .slice none 0 0] 87)) ∧ Hid (wr.heap[w.heap.size]? = some (.cells #[.int .i64 L, .slice a n c] 87)) ∧ Hid (Below w.heap.size w wr) ∧ Hid (w.heap.size + 2 ≤ wr.heap.size)) (fun i _ => n - (intOf i).toNat)
 case atStart => exact ⟨0, List.replicate n nilS, Nat.zero_le _, rfl, HO, hid (by rw [List.take_zero, List.nil_append, Nat.sub_zero]; exact Bands.nils _ _ _ _), R2, Q2, HB1, HSZ1⟩
 case round =>
  clear HX1 R2 Q2 HB1 HSZ1 HO
  obtain ⟨k, xs, hk, rfl, hown, hB, R2, Q2, hnx, hsz⟩ := hrel
  by_cases hlt : k < n
  · have hlt' : (k : Int) < (n : Int) := by omega
    have hk0 : (0 : Int) ≤ (k : Int) := by omega
    rcases H0.out.cells with h0 | ⟨b, off, rfl, hc⟩
    · omega
    obtain ⟨v, hcx0, ax, cx, rfl, hr0, hnil, hmx⟩ := hc k (by omega)
    have hbl := World.block_lt_of_cell? w _ hcx0
    have hcx : wr.cell? ⟨b, off + k, none⟩ = some (.slice ax (ss.getD k []).length cx) := (hnx.out.cell (by exact hbl)).trans hcx0
    have hrow := hid (show Row w (.slice ax (ss.getD k []).length cx) (ss.getD k []) from ⟨ax, cx, rfl, hr0, hnil, hmx⟩)
    have HT := hid (take_snoc ss k [] (by omega))
    have HBD := hid hr0.bd
    have hlen := HSB.out k
    generalize ss.getD k [] = zk at *
    obtain ⟨m, hm⟩ : ∃ m, zk.length = m := ⟨_, rfl⟩
    have HM := hid hm
    rw [hm] at hcx hlen
    clear hc hcx0 hr0 hnil hmx hm hbl
    go_wp2_with fail
    have bX := Below.alloc1 wr (.cells #[.slice ax m cx] 22)
    have RX := reads_one (heap_alloc_new wr (.cells #[.slice ax m cx] 22)) (show Row _ _ zk from by have := hrow.out.below ((hnx.out.trans (bX.mono hnx.out.size))) (Nat.le_refl _); rw [HM.out] at this; exact this)
    refine (impl_joined (m := 1) 1 RX rfl (by omega) (by simp [tot]; have := HM.out; omega)).mono ?_
    rintro e w1 ⟨v1, rfl, o, b1⟩
    have b2 := (bX.trans (b1.mono bX.size))
    have o2 : w1.ownsRow wr.heap.size 5 1 v1 zk.length (bys zk) := owns_lower (by simpa [tot] using o) bX.size
    have hown1 := owns_below b2 (Nat.le_refl _) hown.out
    have hcy : ∃ v, w1.cell? ⟨w.heap.size + 1 + 1, k, none⟩ = some v := ⟨_, (hown1.cellAt k (by omega)).trans (List.getElem?_eq_getElem (by have := hown1.1; omega))⟩
    obtain ⟨v, hcy⟩ := hcy
    have hfr : w1.frozen? ⟨w.heap.size + 1 + 1, k, none⟩ = false := hown1.frozenAt k
    obtain ⟨av, cv, rfl⟩ := own_sl o2
    have R := hown1.stored k (.slice av zk.length cv)
    have hB1 := (hB.out.agree (Agree.below b2 (Nat.le_refl _))).swap (i := k) hsz.out b2.size (by simp; omega) o2 HBD.out (Nat.le_refl _)
    rw [set_rep _ k n [] zk (by simp; omega) (by omega), ← HT.out] at hB1
    have HB2 := hid ((hB1.beside R.2 (fun i => owns_ne (hB1.own i) hown1 (by decide))).mono (Nat.le_refl _) R.2.size)
    have HR := hid R.1
    have R3 := hid ((R.2.block _ (by have := hsz.out; have := b2.size; omega) (by simp)).trans ((b2.block _ (by have := hsz.out; omega)).trans R2.out))
    have Q3 := hid ((R.2.block _ (by have := hsz.out; have := b2.size; omega) (by simp; omega)).trans ((b2.block _ (by have := hsz.out; omega)).trans Q2.out))
    have HN2 := hid ((hnx.out.trans (b2.mono hnx.out.size)).setCell (p := ⟨w.heap.size + 1 + 1, k, none⟩) (by show w.heap.size ≤ w.heap.size + 1 + 1; omega) (.slice av zk.length cv))
    have HS2 := hid (show w.heap.size + 2 ≤ (w1.setCell ⟨w.heap.size + 1 + 1, k, none⟩ (.slice av zk.length cv)).heap.size by rw [set_size]; have := hsz.out; have := b2.size; omega)
    clear bX RX o b1 b2 o2 hown1 R hB1 hown hB R2 Q2 hnx hsz hcx
    go_wp2_with fail
    go_roundw
    case rel => exact ⟨k + 1, xs.set k (.slice av zk.length cv), by omega, by go_num, HR, HB2, R3, Q3, HN2, HS2⟩
    case measure => simp [intOf]; omega
  · have hlt' : ¬ (k : Int) < (n : Int) := by omega
    obtain rfl : n = k := by omega
    have hBt := hB.out
    rw [List.take_of_length_le (by omega), Nat.sub_self, List.replicate_zero, List.append_nil] at hBt
    have HO6 := hid (show OwnP wr (w.heap.size + 2) wr.heap.size (.slice (some ⟨w.heap.size + 1 + 1, 0, none⟩) n n) ss from ⟨⟨xs, by rw [hl]; exact hown.out, hBt⟩, fun g hg => (hown.out.lt g hg).2⟩)
    have q0 : wr.cell? ⟨w.heap.size, 0, none⟩ = some (.int .i64 L) := cell_of_row _ _ 0 _ _ _ Q2.out
    have r0 : wr.cell? ⟨w.heap.size + 1, 0, none⟩ = some (.int .i64 0) := cell_of_row _ _ 0 _ _ _ R2.out
    have r1 : wr.cell? ⟨w.heap.size + 1, 1, none⟩ = some (.slice none 0 0) := cell_of_row _ _ 1 _ _ _ R2.out
    have rf0 : wr.frozen? ⟨w.heap.size + 1, 0, none⟩ = false := frozen_of_row _ _ _ _ _ R2.out
    have rf1 : wr.frozen? ⟨w.heap.size + 1, 1, none⟩ = false := frozen_of_row _ _ _ _ _ R2.out
    have T1 := heap_setCell_same wr (w.heap.size + 1) 0 _ 87 (.int .i64 L) R2.out
    have T2 := hid (heap_setCell_same _ (w.heap.size + 1) 1 _ 87 (.slice (some ⟨w.heap.size + 1 + 1, 0, none⟩) n n) T1)
    have B6 := hid ((hnx.out.setCell (p := ⟨w.heap.size + 1, 0, none⟩) (by simp) (.int .i64 L)).setCell (p := ⟨w.heap.size + 1, 1, none⟩) (by simp) (.slice (some ⟨w.heap.size + 1 + 1, 0, none⟩) n n))
    have O6 := hid (HO6.out.agree (w' := (wr.setCell ⟨w.heap.size + 1, 0, none⟩ (.int .i64 L)).setCell ⟨w.heap.size + 1, 1, none⟩ (.slice (some ⟨w.heap.size + 1 + 1, 0, none⟩) n n)) (fun k h1 _ => (heap_set_ne _ _ _ _ _ (by omega)).trans (heap_set_ne _ _ _ _ _ (by omega))))
    clear T1 hBt hown hB
    go_wp2_with fail
    exact bodyPost_ret (results_cell_row Tryz.results153 _ _ (w.heap.size + 1) 87 _ (0, 0) _ rfl T2.out Tryz.underlying87 rfl size_pg) rfl ⟨_, _, rfl, O6.out.mono (by omega) (by simp only [set_size]; exact Nat.le_refl _), B6.out⟩
end Go.Proofs.YtkfhfjghfadofaaGreat
/- The contract of the program's (Heap).with: a heap copied, one page laid in. Conditions: the heap is one; the page lies within or just behind it. -/


namespace Go.Proofs.YtkfhfjghfadofaaGreat
open Go.RowKit
set_option maxRecDepth 100000
def padH (ps : List Pg) (q : Nat) : List Pg := ps ++ List.replicate (q + 1 - ps.length) pg0
def withH (ps : List Pg) (q : Nat) (p : Pg) : List Pg := (padH ps q).set q p
theorem padH_len (ps : List Pg) (q : Nat) : (padH ps q).length = max ps.length (q + 1) := by unfold padH; simp; omega
theorem withH_len (ps : List Pg) (q : Nat) (p : Pg) : (withH ps q p).length = max ps.length (q + 1) := by unfold withH; rw [List.length_set, padH_len]
theorem getD_rep {α : Type} (n i : Nat) (d : α) : (List.replicate n d).getD i d = d := by
 rw [List.getD_eq_getElem?_getD, List.getElem?_replicate]
 split <;> rfl
theorem OwnG.zeros {w : World} {lo hi g N : Nat} (h : w.ownsRow lo 87 2 (.slice (some ⟨g, 0, none⟩) N N) N (cellsN (List.replicate N sn0) (List.replicate N nilS))) (hg : g < hi) : OwnG w lo hi (.slice (some ⟨g, 0, none⟩) N N) (List.replicate N pg0) := by
 have hlg := (h.lt g rfl).1
 have e : ∀ i, i < N → (List.replicate N (hi, hi)).getD i (0, 0) = (hi, hi) := fun i hi' => by rw [List.getD_eq_getElem?_getD, List.getElem?_replicate, if_pos hi']; rfl
 refine ⟨⟨List.replicate N nilS, List.replicate N (hi, hi), ?_, ⟨by simp, by simp, fun i hi' => ?_, fun i hi' => ?_, fun i j hi' hj _ => ?_⟩, fun i hi' g' hg' => ?_⟩, fun g' hg' => ?_⟩
 · rw [List.length_replicate, fsts_rep]; exact h
 · rw [List.map_replicate, List.length_replicate] at hi'
   rw [e i hi', getD_rep, List.map_replicate, show pg0.2 = [] from rfl, getD_rep]
   exact OwnP.nil _ _ _
 · rw [List.map_replicate, List.length_replicate] at hi'
   rw [e i hi']; simp only; omega
 · rw [List.map_replicate, List.length_replicate] at hi' hj
   rw [e i hi', e j hj]; simp only; omega
 · rw [List.length_replicate] at hi'
   obtain rfl : g = g' := by simpa [Value.ownBlock] using hg'
   rw [e i hi']; exact .inl hg
 · obtain rfl : g = g' := by simpa [Value.ownBlock] using hg'
   exact hg
theorem OwnG.aside {w w' : World} {lo hi : Nat} {v : Value} {ps : List Pg} (h : OwnG w lo hi v ps) {b : Nat} {e : TypeId} {s n : Nat} {v' : Value} {xs : List Value} (o : w.ownsRow b e s v' n xs) (hp : (87 : TypeId) ≠ e) (h22 : (22 : TypeId) ≠ e) (h5 : (5 : TypeId) ≠ e) (hg : w.grownBy w' v'.ownBlock) : OwnG w' lo hi v ps := by
 obtain ⟨ys, bs, ow, hB, hq⟩ := h.own
 exact ⟨⟨ys, bs, ow.kept hg (owns_ne ow o hp), hB.aside o h22 h5 hg, hq⟩, h.top⟩
theorem grown_setRow10 (w : World) (g : Nat) (cs : Array Value) : w.grownBy (w.setRow g cs) (some g) :=
 ⟨rfl, rfl, rfl, by simp, fun k _ hk => setRow_other _ _ _ _ (fun e => hk (by rw [e]))⟩
set_option maxHeartbeats 12800000 in
theorem impl_Hwith {ad : Option Addr} {n : Nat} (cap : Nat) {ps : List Pg} {q : Nat} {RL : Int} {RS : List (List Int)} {a' : Option Addr} {m c' lo : Nat} {w : World} (h : ReadsG w ad ps) (hl : ps.length = n) (hok : okH ps = true) (hq : q ≤ n) (hlo : lo ≤ w.heap.size) (hp : OwnP w lo w.heap.size (.slice a' m c') RS) :
 Calls Tryz.prog 113 #[.agg #[.slice ad n cap], .int .i64 (q : Int), .agg #[.int .i64 RL, .slice a' m c']] w fun e w' => ∃ v c, e = .returned (.agg #[.slice v (withH ps q (RL, RS)).length c]) ∧ OwnG w' lo w'.heap.size (.slice v (withH ps q (RL, RS)).length c) (withH ps q (RL, RS)) ∧ Below w.heap.size w w' := by
 obtain ⟨i0, hi, hz0, hz1, hz2⟩ := info_parts Tryz.infoPg
 have z1 := alloc_size w (.cells #[.slice ad n cap] 26)
 have z2 := alloc_size (w.alloc (.cells #[.slice ad n cap] 26)) (.cells #[.int .i64 RL, .slice a' m c'] 87)
 have z3 := alloc_size ((w.alloc (.cells #[.slice ad n cap] 26)).alloc (.cells #[.int .i64 RL, .slice a' m c'] 87)) (.cells #[.slice none 0 0] 26)
 have R0 : (((w.alloc (.cells #[.slice ad n cap] 26)).alloc (.cells #[.int .i64 RL, .slice a' m c'] 87)).alloc (.cells #[.slice none 0 0] 26)).heap[w.heap.size]? = some (.cells #[.slice ad n cap] 26) := by
  rw [alloc_old _ _ _ (by omega), alloc_old _ _ _ (by omega)]; exact heap_alloc_new _ _
 have R1 : (((w.alloc (.cells #[.slice ad n cap] 26)).alloc (.cells #[.int .i64 RL, .slice a' m c'] 87)).alloc (.cells #[.slice none 0 0] 26)).heap[w.heap.size + 1]? = some (.cells #[.int .i64 RL, .slice a' m c'] 87) := by
  rw [alloc_old _ _ _ (by omega)]
  have := heap_alloc_new (w.alloc (.cells #[.slice ad n cap] 26)) (.cells #[.int .i64 RL, .slice a' m c'] 87)
  rwa [z1] at this
 have R2 : (((w.alloc (.cells #[.slice ad n cap] 26)).alloc (.cells #[.int .i64 RL, .slice a' m c'] 87)).alloc (.cells #[.slice none 0 0] 26)).heap[w.heap.size + 1 + 1]? = some (.cells #[.slice none 0 0] 26) := by
  have := heap_alloc_new ((w.alloc (.cells #[.slice ad n cap] 26)).alloc (.cells #[.int .i64 RL, .slice a' m c'] 87)) (.cells #[.slice none 0 0] 26)
  rwa [z2, z1] at this
 have BW : Below w.heap.size w (((w.alloc (.cells #[.slice ad n cap] 26)).alloc (.cells #[.int .i64 RL, .slice a' m c'] 87)).alloc (.cells #[.slice none 0 0] 26)) := (((Below.refl _ w).alloc (Nat.le_refl _) _).alloc (by omega) _).alloc (by omega) _
 have HZ := hid (show (((w.alloc (.cells #[.slice ad n cap] 26)).alloc (.cells #[.int .i64 RL, .slice a' m c'] 87)).alloc (.cells #[.slice none 0 0] 26)).heap.size = w.heap.size + 3 by omega)
 have HX0 := hid R0
 have HX1 := hid R1
 have HX2 := hid R2
 have HBW := hid BW
 have HH := hid h
 have HO := hid hok
 have HP := hid hp
 have hn16 : n ≤ 16 := by have := (okH_of hok).1; omega
 have c0 : (((w.alloc (.cells #[.slice ad n cap] 26)).alloc (.cells #[.int .i64 RL, .slice a' m c'] 87)).alloc (.cells #[.slice none 0 0] 26)).cell? ⟨w.heap.size, 0, none⟩ = some (.slice ad n cap) := cell_of_row _ _ 0 _ _ _ R0
 clear R0 R1 R2 BW z1 z2 z3 h hok hp
 by_cases hm : (n : Int) < (q : Int) + 1
 · have hdum : True := trivial
   clear hdum
   have HNN := hid (show max ps.length (q + 1) = (q + 1) by rw [hl]; omega)
   have hN17 : (q + 1) ≤ 17 := by omega
   have hnN : n ≤ (q + 1) := by omega
   have hqN : q < (q + 1) := by omega
   have HPAD := hid (show padH ps q = ps ++ List.replicate ((q + 1) - n) pg0 by unfold padH; rw [hl, show q + 1 - n = (q + 1) - n by omega])
   go_enter Tryz.func113, Tryz.ntmps113
   go_wp2_with (at_make; refine wpList_make_full _ rfl _ _ 24 rfl (w.heap.size + 3) 87 i0 (.agg #[.int .i64 0, .slice none 0 0]) 2 Tryz.underlying24 hi hz0 hz1 _ _ _ _ ((q + 1)) rfl rfl (by omega) (by omega) ?b2 ?b3 ?b4 ?_)
   case b2 => first | omega | (rw [hz2]; omega)
   case b3 => unfold maxLen; omega
   try (case b4 => have := HZ.out; omega)
   clear c0
   generalize ((w.alloc (.cells #[.slice ad n cap] 26)).alloc (.cells #[.int .i64 RL, .slice a' m c'] 87)).alloc (.cells #[.slice none 0 0] 26) = W0 at *
   intro w0 hown0 hgrow0
   have b := (Below.refl W0.heap.size W0).grown hgrow0 (Nat.le_refl _) (fun k h => by cases h)
   rw [made2n, ← nilS, ← zeroN9] at hown0
   have hsz0 := (hown0.lt _ rfl).2
   have HOG := hid (show OwnG w0 (w.heap.size + 3) w0.heap.size (.slice (some ⟨w.heap.size + 1 + 1 + 1, 0, none⟩) ((q + 1)) ((q + 1))) (List.replicate ((q + 1)) pg0) from OwnG.zeros hown0 hsz0)
   have Q0 := hid ((b.block _ (by have := HZ.out; omega)).trans HX0.out)
   have Q1 := hid ((b.block _ (by have := HZ.out; omega)).trans HX1.out)
   have Q2 := hid ((b.block _ (by have := HZ.out; omega)).trans HX2.out)
   have HB1 := hid (HBW.out.trans (b.mono HBW.out.size))
   have HS1 := hid (show w.heap.size + 3 ≤ w0.heap.size by have := HZ.out; have := b.size; omega)
   have c0 : w0.cell? ⟨w.heap.size, 0, none⟩ = some (.slice ad n cap) := cell_of_row _ _ 0 _ _ _ Q0.out
   clear hown0 hgrow0 b hsz0
   go_wp2_with fail
   clear c0
   go_loopw [20] (fun i wr => ∃ (k : Nat), k ≤ n ∧ i = .int .i64 k ∧ Hid (OwnG wr (w.heap.size + 3) wr.heap.size (.slice (some ⟨w.heap.size + 1 + 1 + 1, 0, none⟩) ((q + 1)) ((q + 1))) (ps.take k ++ List.replicate ((q + 1) - k) pg0)) ∧ Hid (wr.heap[w.heap.size + 1]? = some (.cells #[.int .i64 RL, .slice a' m c'] 87)) ∧ Hid (wr.heap[w.heap.size + 1 + 1]? = some (.cells #[.slice none 0 0] 26)) ∧ Hid (Below w.heap.size w wr) ∧ Hid (w.heap.size + 3 ≤ wr.heap.size)) (fun i _ => n - (intOf i).toNat)
   case atStart => exact ⟨0, Nat.zero_le _, rfl, hid (by simpa using HOG.out), Q1, Q2, HB1, HS1⟩
   case round =>
    clear HOG Q0 Q1 Q2 HB1 HS1
    obtain ⟨k, hk, rfl, hown, Q1, Q2, hnx, hsz⟩ := hrel
    by_cases hlt : k < n
    · have hlt' : (k : Int) < (n : Int) := by omega
      have hk0 : (0 : Int) ≤ (k : Int) := by omega
      have hkN' : (k : Int) < ((((q + 1)) : Nat) : Int) := by omega
      obtain ⟨b, off, ap, cp, rfl, hca0, hcx0, hr0, hmx⟩ := HH.out.at (k := k) (by omega)
      have hpg := okPg_of ((okH_of HO.out).2 k (by omega))
      have h16 := (okP_of hpg.1).n
      have hz92 := (okP_of hpg.1).z
      have hbl := World.block_lt_of_cell? w _ hca0
      have hca := (hnx.out.cell (p := ⟨b, off + k * 2, none⟩) hbl).trans hca0
      have hcx := (hnx.out.cell (p := ⟨b, off + k * 2 + 1, none⟩) hbl).trans hcx0
      have HT := hid (take_snocG ps k (by omega))
      have hrp := hr0.below hnx.out (Nat.le_refl _)
      have HLK := hid (show (ps.take k).length = k by rw [List.length_take]; omega)
      generalize ps.getD k pg0 = p at *
      obtain ⟨A, ss⟩ := p
      obtain ⟨mm, hm⟩ : ∃ m, ss.length = m := ⟨_, rfl⟩
      dsimp only at hcx hca hrp hz92 h16
      rw [hm] at hcx h16
      have HM := hid hm
      have HZ92 := hid hz92
      have bX := Below.alloc1 wr (.cells #[.int .i64 A, .slice ap mm cp] 87)
      have HRP := hid (hrp.below bX (Nat.le_refl _))
      have BX := hid bX
      clear hca0 hcx0 hr0 hmx hm hbl hpg hz92 hrp bX
      go_wp2_with fail
      refine (impl_copied A cp HRP.out.rd HM.out (by omega) (fun i => by have := HZ92.out i; omega)).mono ?_
      rintro e w1 ⟨a1, c1, rfl, op, b1⟩
      have b2 := BX.out.trans (b1.mono BX.out.size)
      have hG1 := hown.out.below b2 (Nat.le_refl _)
      obtain ⟨ys, bs, ow, hBd, hqq⟩ := hG1.own
      have hlen : (ps.take k ++ List.replicate ((q + 1) - k) pg0).length = (q + 1) := by rw [List.length_append, HLK.out, List.length_replicate]; omega
      rw [hlen] at ow
      have hyl : ys.length = (fsts (ps.take k ++ List.replicate ((q + 1) - k) pg0)).length := by rw [hBd.len, fsts_length]; simp
      have hcl : (cellsN (fsts (ps.take k ++ List.replicate ((q + 1) - k) pg0)) ys).length = ((q + 1)) * 2 := ow.1
      have hcy : ∃ v, w1.cell? ⟨w.heap.size + 1 + 1 + 1, k * 2, none⟩ = some v := ⟨_, (ow.cellAt (k * 2) (by omega)).trans (List.getElem?_eq_getElem (by omega))⟩
      have hcz : ∃ v, w1.cell? ⟨w.heap.size + 1 + 1 + 1, k * 2 + 1, none⟩ = some v := ⟨_, (ow.cellAt (k * 2 + 1) (by omega)).trans (List.getElem?_eq_getElem (by omega))⟩
      obtain ⟨v1, hcy⟩ := hcy
      obtain ⟨v2, hcz⟩ := hcz
      have hfr : w1.frozen? ⟨w.heap.size + 1 + 1 + 1, k * 2, none⟩ = false := ow.frozenAt (k * 2)
      have hfz : w1.frozen? ⟨w.heap.size + 1 + 1 + 1, k * 2 + 1, none⟩ = false := ow.frozenAt (k * 2 + 1)
      have HG2 := hid (OwnG.swap (A := A) (lo' := w.heap.size + 3) (hi' := w1.heap.size) hG1 hlen (i := k) (by omega) op (.inr BX.out.size) (Nat.le_refl _) (by have := BX.out.size; have := hsz.out; omega) b2.size (Nat.le_refl _))
      rw [set_rep _ k ((q + 1)) pg0 (A, ss) HLK.out (by omega), ← HT.out] at HG2
      have V1 := hid ((heap_set_ne _ (w.heap.size + 1 + 1 + 1) (k * 2 + 1) (w.heap.size + 1) (.slice a1 mm c1) (by omega)).trans ((heap_set_ne w1 (w.heap.size + 1 + 1 + 1) (k * 2) (w.heap.size + 1) (.int .i64 A) (by omega)).trans ((b2.block _ (by have := hsz.out; omega)).trans Q1.out)))
      have V2 := hid ((heap_set_ne _ (w.heap.size + 1 + 1 + 1) (k * 2 + 1) (w.heap.size + 1 + 1) (.slice a1 mm c1) (by omega)).trans ((heap_set_ne w1 (w.heap.size + 1 + 1 + 1) (k * 2) (w.heap.size + 1 + 1) (.int .i64 A) (by omega)).trans ((b2.block _ (by have := hsz.out; omega)).trans Q2.out)))
      have HN2 := hid (((hnx.out.trans (b2.mono hnx.out.size)).setCell (p := ⟨w.heap.size + 1 + 1 + 1, k * 2, none⟩) (by show w.heap.size ≤ w.heap.size + 1 + 1 + 1; omega) (.int .i64 A)).setCell (p := ⟨w.heap.size + 1 + 1 + 1, k * 2 + 1, none⟩) (by show w.heap.size ≤ w.heap.size + 1 + 1 + 1; omega) (.slice a1 mm c1))
      have HS2 := hid (show w.heap.size + 3 ≤ w1.heap.size by have := hsz.out; have := b2.size; omega)
      clear op b1 b2 hG1 ow hBd hqq hlen hyl hcl hown Q1 Q2 hnx hsz hca hcx
      go_wp2_with fail
      go_roundw
      case rel => exact ⟨k + 1, by omega, by go_num, hid (by simpa [set_size] using HG2.out), V1, V2, HN2, hid (by simpa [set_size] using HS2.out)⟩
      case measure => simp [intOf]; omega
    · have hlt' : ¬ (k : Int) < (n : Int) := by omega
      obtain rfl : n = k := by omega
      have hqN' : (q : Int) < ((((q + 1)) : Nat) : Int) := by omega
      have hq0 : (0 : Int) ≤ (q : Int) := by omega
      have hG1 : OwnG wr (w.heap.size + 3) wr.heap.size (.slice (some ⟨w.heap.size + 1 + 1 + 1, 0, none⟩) ((q + 1)) ((q + 1))) (padH ps q) := by have := hown.out; rw [List.take_of_length_le (by omega)] at this; rw [HPAD.out]; exact this
      have hlen : (padH ps q).length = (q + 1) := by rw [padH_len, HNN.out]
      obtain ⟨ys, bs, ow, hBd, hqq⟩ := hG1.own
      rw [hlen] at ow
      have hcl : (cellsN (fsts (padH ps q)) ys).length = ((q + 1)) * 2 := ow.1
      have hcy : ∃ v, wr.cell? ⟨w.heap.size + 1 + 1 + 1, q * 2, none⟩ = some v := ⟨_, (ow.cellAt (q * 2) (by omega)).trans (List.getElem?_eq_getElem (by omega))⟩
      have hcz : ∃ v, wr.cell? ⟨w.heap.size + 1 + 1 + 1, q * 2 + 1, none⟩ = some v := ⟨_, (ow.cellAt (q * 2 + 1) (by omega)).trans (List.getElem?_eq_getElem (by omega))⟩
      obtain ⟨v1, hcy⟩ := hcy
      obtain ⟨v2, hcz⟩ := hcz
      have hfr : wr.frozen? ⟨w.heap.size + 1 + 1 + 1, q * 2, none⟩ = false := ow.frozenAt (q * 2)
      have hfz : wr.frozen? ⟨w.heap.size + 1 + 1 + 1, q * 2 + 1, none⟩ = false := ow.frozenAt (q * 2 + 1)
      have HG2 := hid (OwnG.swap (A := RL) (lo' := lo) (hi' := wr.heap.size) hG1 hlen (i := q) (by omega) (HP.out.below hnx.out (Nat.le_refl _)) (.inl (by omega)) (by omega) (Nat.le_refl _) (Nat.le_refl _) (by have := hsz.out; omega))
      have q0 : wr.cell? ⟨w.heap.size + 1, 0, none⟩ = some (.int .i64 RL) := cell_of_row _ _ 0 _ _ _ Q1.out
      have q1 : wr.cell? ⟨w.heap.size + 1, 1, none⟩ = some (.slice a' m c') := cell_of_row _ _ 1 _ _ _ Q1.out
      have V2 := hid ((heap_set_ne _ (w.heap.size + 1 + 1 + 1) (q * 2 + 1) (w.heap.size + 1 + 1) (.slice a' m c') (by omega)).trans ((heap_set_ne wr (w.heap.size + 1 + 1 + 1) (q * 2) (w.heap.size + 1 + 1) (.int .i64 RL) (by omega)).trans Q2.out))
      have HN2 := hid ((hnx.out.setCell (p := ⟨w.heap.size + 1 + 1 + 1, q * 2, none⟩) (by show w.heap.size ≤ w.heap.size + 1 + 1 + 1; omega) (.int .i64 RL)).setCell (p := ⟨w.heap.size + 1 + 1 + 1, q * 2 + 1, none⟩) (by show w.heap.size ≤ w.heap.size + 1 + 1 + 1; omega) (.slice a' m c'))
      have HWL := hid (show (withH ps q (RL, RS)).length = (q + 1) by rw [withH_len, HNN.out])
      have HSZ := hid hsz.out
      clear ow hBd hqq hlen hcl hown Q1 Q2 hnx hG1 hsz
      go_wp2_with (refine wpList_store_row rfl 26 (.tmp 6) (.tmp 36) rfl (w.heap.size + 1 + 1) #[.slice (some ⟨w.heap.size + 1 + 1 + 1, 0, none⟩) ((q + 1)) ((q + 1))] rfl rfl 26 _ V2.out ?s1 ?s2 ?s3 ?_)
      case s1 => simpa using size_hp
      case s3 => simp [Value.oneCell']
      refine bodyPost_ret (results_cell_row Tryz.results113 _ _ (w.heap.size + 1 + 1) 26 #[.slice (some ⟨w.heap.size + 1 + 1 + 1, 0, none⟩) ((q + 1)) ((q + 1))] (0, 0) _ rfl (setRow_heap _ _ _ _ _ _ V2.out) Tryz.underlying26 rfl size_hp) rfl ⟨some ⟨w.heap.size + 1 + 1 + 1, 0, none⟩, (q + 1), by rw [HWL.out], ?_, below_setRow HN2.out (by omega) _⟩
      rw [HWL.out]
      have hoB : ((wr.setCell ⟨w.heap.size + 1 + 1 + 1, q * 2, none⟩ (.int .i64 RL)).setCell ⟨w.heap.size + 1 + 1 + 1, q * 2 + 1, none⟩ (.slice a' m c')).ownsRow 0 26 1 (.slice (some ⟨w.heap.size + 1 + 1, 0, none⟩) 1 1) 1 [.slice none 0 0] := ⟨rfl, .inr ⟨w.heap.size + 1 + 1, 1, #[.slice none 0 0], rfl, Nat.zero_le _, V2.out, Nat.le_refl _, by unfold maxLen; omega, rfl, rfl⟩⟩
      exact (HG2.out.aside hoB (by decide) (by decide) (by decide) (grown_setRow10 _ _ _)).mono (Nat.le_refl _) (by simp)
 · have hdum : True := trivial
   clear hdum
   have HNN := hid (show max ps.length (q + 1) = n by rw [hl]; omega)
   have hN17 : n ≤ 17 := by omega
   have hnN : n ≤ n := by omega
   have hqN : q < n := by omega
   have HPAD := hid (show padH ps q = ps ++ List.replicate (n - n) pg0 by unfold padH; rw [hl, show q + 1 - n = n - n by omega])
   go_enter Tryz.func113, Tryz.ntmps113
   go_wp2_with (at_make; refine wpList_make_full _ rfl _ _ 24 rfl (w.heap.size + 3) 87 i0 (.agg #[.int .i64 0, .slice none 0 0]) 2 Tryz.underlying24 hi hz0 hz1 _ _ _ _ (n) rfl rfl (by omega) (by omega) ?b2 ?b3 ?b4 ?_)
   case b2 => first | omega | (rw [hz2]; omega)
   case b3 => unfold maxLen; omega
   try (case b4 => have := HZ.out; omega)
   clear c0
   generalize ((w.alloc (.cells #[.slice ad n cap] 26)).alloc (.cells #[.int .i64 RL, .slice a' m c'] 87)).alloc (.cells #[.slice none 0 0] 26) = W0 at *
   intro w0 hown0 hgrow0
   have b := (Below.refl W0.heap.size W0).grown hgrow0 (Nat.le_refl _) (fun k h => by cases h)
   rw [made2n, ← nilS, ← zeroN9] at hown0
   have hsz0 := (hown0.lt _ rfl).2
   have HOG := hid (show OwnG w0 (w.heap.size + 3) w0.heap.size (.slice (some ⟨w.heap.size + 1 + 1 + 1, 0, none⟩) (n) (n)) (List.replicate (n) pg0) from OwnG.zeros hown0 hsz0)
   have Q0 := hid ((b.block _ (by have := HZ.out; omega)).trans HX0.out)
   have Q1 := hid ((b.block _ (by have := HZ.out; omega)).trans HX1.out)
   have Q2 := hid ((b.block _ (by have := HZ.out; omega)).trans HX2.out)
   have HB1 := hid (HBW.out.trans (b.mono HBW.out.size))
   have HS1 := hid (show w.heap.size + 3 ≤ w0.heap.size by have := HZ.out; have := b.size; omega)
   have c0 : w0.cell? ⟨w.heap.size, 0, none⟩ = some (.slice ad n cap) := cell_of_row _ _ 0 _ _ _ Q0.out
   clear hown0 hgrow0 b hsz0
   go_wp2_with fail
   clear c0
   go_loopw [20] (fun i wr => ∃ (k : Nat), k ≤ n ∧ i = .int .i64 k ∧ Hid (OwnG wr (w.heap.size + 3) wr.heap.size (.slice (some ⟨w.heap.size + 1 + 1 + 1, 0, none⟩) (n) (n)) (ps.take k ++ List.replicate (n - k) pg0)) ∧ Hid (wr.heap[w.heap.size + 1]? = some (.cells #[.int .i64 RL, .slice a' m c'] 87)) ∧ Hid (wr.heap[w.heap.size + 1 + 1]? = some (.cells #[.slice none 0 0] 26)) ∧ Hid (Below w.heap.size w wr) ∧ Hid (w.heap.size + 3 ≤ wr.heap.size)) (fun i _ => n - (intOf i).toNat)
   case atStart => exact ⟨0, Nat.zero_le _, rfl, hid (by simpa using HOG.out), Q1, Q2, HB1, HS1⟩
   case round =>
    clear HOG Q0 Q1 Q2 HB1 HS1
    obtain ⟨k, hk, rfl, hown, Q1, Q2, hnx, hsz⟩ := hrel
    by_cases hlt : k < n
    · have hlt' : (k : Int) < (n : Int) := by omega
      have hk0 : (0 : Int) ≤ (k : Int) := by omega
      have hkN' : (k : Int) < (((n) : Nat) : Int) := by omega
      obtain ⟨b, off, ap, cp, rfl, hca0, hcx0, hr0, hmx⟩ := HH.out.at (k := k) (by omega)
      have hpg := okPg_of ((okH_of HO.out).2 k (by omega))
      have h16 := (okP_of hpg.1).n
      have hz92 := (okP_of hpg.1).z
      have hbl := World.block_lt_of_cell? w _ hca0
      have hca := (hnx.out.cell (p := ⟨b, off + k * 2, none⟩) hbl).trans hca0
      have hcx := (hnx.out.cell (p := ⟨b, off + k * 2 + 1, none⟩) hbl).trans hcx0
      have HT := hid (take_snocG ps k (by omega))
      have hrp := hr0.below hnx.out (Nat.le_refl _)
      have HLK := hid (show (ps.take k).length = k by rw [List.length_take]; omega)
      generalize ps.getD k pg0 = p at *
      obtain ⟨A, ss⟩ := p
      obtain ⟨mm, hm⟩ : ∃ m, ss.length = m := ⟨_, rfl⟩
      dsimp only at hcx hca hrp hz92 h16
      rw [hm] at hcx h16
      have HM := hid hm
      have HZ92 := hid hz92
      have bX := Below.alloc1 wr (.cells #[.int .i64 A, .slice ap mm cp] 87)
      have HRP := hid (hrp.below bX (Nat.le_refl _))
      have BX := hid bX
      clear hca0 hcx0 hr0 hmx hm hbl hpg hz92 hrp bX
      go_wp2_with fail
      refine (impl_copied A cp HRP.out.rd HM.out (by omega) (fun i => by have := HZ92.out i; omega)).mono ?_
      rintro e w1 ⟨a1, c1, rfl, op, b1⟩
      have b2 := BX.out.trans (b1.mono BX.out.size)
      have hG1 := hown.out.below b2 (Nat.le_refl _)
      obtain ⟨ys, bs, ow, hBd, hqq⟩ := hG1.own
      have hlen : (ps.take k ++ List.replicate (n - k) pg0).length = n := by rw [List.length_append, HLK.out, List.length_replicate]; omega
      rw [hlen] at ow
      have hyl : ys.length = (fsts (ps.take k ++ List.replicate (n - k) pg0)).length := by rw [hBd.len, fsts_length]; simp
      have hcl : (cellsN (fsts (ps.take k ++ List.replicate (n - k) pg0)) ys).length = (n) * 2 := ow.1
      have hcy : ∃ v, w1.cell? ⟨w.heap.size + 1 + 1 + 1, k * 2, none⟩ = some v := ⟨_, (ow.cellAt (k * 2) (by omega)).trans (List.getElem?_eq_getElem (by omega))⟩
      have hcz : ∃ v, w1.cell? ⟨w.heap.size + 1 + 1 + 1, k * 2 + 1, none⟩ = some v := ⟨_, (ow.cellAt (k * 2 + 1) (by omega)).trans (List.getElem?_eq_getElem (by omega))⟩
      obtain ⟨v1, hcy⟩ := hcy
      obtain ⟨v2, hcz⟩ := hcz
      have hfr : w1.frozen? ⟨w.heap.size + 1 + 1 + 1, k * 2, none⟩ = false := ow.frozenAt (k * 2)
      have hfz : w1.frozen? ⟨w.heap.size + 1 + 1 + 1, k * 2 + 1, none⟩ = false := ow.frozenAt (k * 2 + 1)
      have HG2 := hid (OwnG.swap (A := A) (lo' := w.heap.size + 3) (hi' := w1.heap.size) hG1 hlen (i := k) (by omega) op (.inr BX.out.size) (Nat.le_refl _) (by have := BX.out.size; have := hsz.out; omega) b2.size (Nat.le_refl _))
      rw [set_rep _ k (n) pg0 (A, ss) HLK.out (by omega), ← HT.out] at HG2
      have V1 := hid ((heap_set_ne _ (w.heap.size + 1 + 1 + 1) (k * 2 + 1) (w.heap.size + 1) (.slice a1 mm c1) (by omega)).trans ((heap_set_ne w1 (w.heap.size + 1 + 1 + 1) (k * 2) (w.heap.size + 1) (.int .i64 A) (by omega)).trans ((b2.block _ (by have := hsz.out; omega)).trans Q1.out)))
      have V2 := hid ((heap_set_ne _ (w.heap.size + 1 + 1 + 1) (k * 2 + 1) (w.heap.size + 1 + 1) (.slice a1 mm c1) (by omega)).trans ((heap_set_ne w1 (w.heap.size + 1 + 1 + 1) (k * 2) (w.heap.size + 1 + 1) (.int .i64 A) (by omega)).trans ((b2.block _ (by have := hsz.out; omega)).trans Q2.out)))
      have HN2 := hid (((hnx.out.trans (b2.mono hnx.out.size)).setCell (p := ⟨w.heap.size + 1 + 1 + 1, k * 2, none⟩) (by show w.heap.size ≤ w.heap.size + 1 + 1 + 1; omega) (.int .i64 A)).setCell (p := ⟨w.heap.size + 1 + 1 + 1, k * 2 + 1, none⟩) (by show w.heap.size ≤ w.heap.size + 1 + 1 + 1; omega) (.slice a1 mm c1))
      have HS2 := hid (show w.heap.size + 3 ≤ w1.heap.size by have := hsz.out; have := b2.size; omega)
      clear op b1 b2 hG1 ow hBd hqq hlen hyl hcl hown Q1 Q2 hnx hsz hca hcx
      go_wp2_with fail
      go_roundw
      case rel => exact ⟨k + 1, by omega, by go_num, hid (by simpa [set_size] using HG2.out), V1, V2, HN2, hid (by simpa [set_size] using HS2.out)⟩
      case measure => simp [intOf]; omega
    · have hlt' : ¬ (k : Int) < (n : Int) := by omega
      obtain rfl : n = k := by omega
      have hqN' : (q : Int) < (((n) : Nat) : Int) := by omega
      have hq0 : (0 : Int) ≤ (q : Int) := by omega
      have hG1 : OwnG wr (w.heap.size + 3) wr.heap.size (.slice (some ⟨w.heap.size + 1 + 1 + 1, 0, none⟩) (n) (n)) (padH ps q) := by have := hown.out; rw [List.take_of_length_le (by omega)] at this; rw [HPAD.out]; exact this
      have hlen : (padH ps q).length = n := by rw [padH_len, HNN.out]
      obtain ⟨ys, bs, ow, hBd, hqq⟩ := hG1.own
      rw [hlen] at ow
      have hcl : (cellsN (fsts (padH ps q)) ys).length = (n) * 2 := ow.1
      have hcy : ∃ v, wr.cell? ⟨w.heap.size + 1 + 1 + 1, q * 2, none⟩ = some v := ⟨_, (ow.cellAt (q * 2) (by omega)).trans (List.getElem?_eq_getElem (by omega))⟩
      have hcz : ∃ v, wr.cell? ⟨w.heap.size + 1 + 1 + 1, q * 2 + 1, none⟩ = some v := ⟨_, (ow.cellAt (q * 2 + 1) (by omega)).trans (List.getElem?_eq_getElem (by omega))⟩
      obtain ⟨v1, hcy⟩ := hcy
      obtain ⟨v2, hcz⟩ := hcz
      have hfr : wr.frozen? ⟨w.heap.size + 1 + 1 + 1, q * 2, none⟩ = false := ow.frozenAt (q * 2)
      have hfz : wr.frozen? ⟨w.heap.size + 1 + 1 + 1, q * 2 + 1, none⟩ = false := ow.frozenAt (q * 2 + 1)
      have HG2 := hid (OwnG.swap (A := RL) (lo' := lo) (hi' := wr.heap.size) hG1 hlen (i := q) (by omega) (HP.out.below hnx.out (Nat.le_refl _)) (.inl (by omega)) (by omega) (Nat.le_refl _) (Nat.le_refl _) (by have := hsz.out; omega))
      have q0 : wr.cell? ⟨w.heap.size + 1, 0, none⟩ = some (.int .i64 RL) := cell_of_row _ _ 0 _ _ _ Q1.out
      have q1 : wr.cell? ⟨w.heap.size + 1, 1, none⟩ = some (.slice a' m c') := cell_of_row _ _ 1 _ _ _ Q1.out
      have V2 := hid ((heap_set_ne _ (w.heap.size + 1 + 1 + 1) (q * 2 + 1) (w.heap.size + 1 + 1) (.slice a' m c') (by omega)).trans ((heap_set_ne wr (w.heap.size + 1 + 1 + 1) (q * 2) (w.heap.size + 1 + 1) (.int .i64 RL) (by omega)).trans Q2.out))
      have HN2 := hid ((hnx.out.setCell (p := ⟨w.heap.size + 1 + 1 + 1, q * 2, none⟩) (by show w.heap.size ≤ w.heap.size + 1 + 1 + 1; omega) (.int .i64 RL)).setCell (p := ⟨w.heap.size + 1 + 1 + 1, q * 2 + 1, none⟩) (by show w.heap.size ≤ w.heap.size + 1 + 1 + 1; omega) (.slice a' m c'))
      have HWL := hid (show (withH ps q (RL, RS)).length = n by rw [withH_len, HNN.out])
      have HSZ := hid hsz.out
      clear ow hBd hqq hlen hcl hown Q1 Q2 hnx hG1 hsz
      go_wp2_with (refine wpList_store_row rfl 26 (.tmp 6) (.tmp 36) rfl (w.heap.size + 1 + 1) #[.slice (some ⟨w.heap.size + 1 + 1 + 1, 0, none⟩) (n) (n)] rfl rfl 26 _ V2.out ?s1 ?s2 ?s3 ?_)
      case s1 => simpa using size_hp
      case s3 => simp [Value.oneCell']
      refine bodyPost_ret (results_cell_row Tryz.results113 _ _ (w.heap.size + 1 + 1) 26 #[.slice (some ⟨w.heap.size + 1 + 1 + 1, 0, none⟩) (n) (n)] (0, 0) _ rfl (setRow_heap _ _ _ _ _ _ V2.out) Tryz.underlying26 rfl size_hp) rfl ⟨some ⟨w.heap.size + 1 + 1 + 1, 0, none⟩, n, by rw [HWL.out], ?_, below_setRow HN2.out (by omega) _⟩
      rw [HWL.out]
      have hoB : ((wr.setCell ⟨w.heap.size + 1 + 1 + 1, q * 2, none⟩ (.int .i64 RL)).setCell ⟨w.heap.size + 1 + 1 + 1, q * 2 + 1, none⟩ (.slice a' m c')).ownsRow 0 26 1 (.slice (some ⟨w.heap.size + 1 + 1, 0, none⟩) 1 1) 1 [.slice none 0 0] := ⟨rfl, .inr ⟨w.heap.size + 1 + 1, 1, #[.slice none 0 0], rfl, Nat.zero_le _, V2.out, Nat.le_refl _, by unfold maxLen; omega, rfl, rfl⟩⟩
      exact (HG2.out.aside hoB (by decide) (by decide) (by decide) (grown_setRow10 _ _ _)).mono (Nat.le_refl _) (by simp)
end Go.Proofs.YtkfhfjghfadofaaGreat
/- The program's (Heap).changed with the change of HeapClear. Conditions: the heap is one. -/

namespace Go.Proofs.YtkfhfjghfadofaaGreat
open Go.RowKit
set_option maxRecDepth 100000
structure AnsH (qs : List Pg) (ok : Bool) (w : World) (e : Ending) (w' : World) : Prop where
 ex : ∃ (v : Option Addr) (c : Nat), e = .returned (.tuple #[.agg #[.slice v qs.length c], .bool ok]) ∧ OwnG w' w.heap.size w'.heap.size (.slice v qs.length c) qs ∧ Below w.heap.size w w'
theorem AnsH.zero {w w' : World} {e : Ending} (he : e = .returned (.tuple #[.agg #[.slice none 0 0], .bool false])) (hb : Below w.heap.size w w') : AnsH [] false w e w' := ⟨none, 0, he, OwnG.nil _ _ _, hb⟩
end Go.Proofs.YtkfhfjghfadofaaGreat
/- The program's (Heap).changed with the change of withTuple. Conditions: the heap is one. -/

namespace Go.Proofs.YtkfhfjghfadofaaGreat
open Go.RowKit
set_option maxRecDepth 100000
set_option maxHeartbeats 12800000 in
theorem changed_tuple (Bs Bt Bn : Nat) {ad : Option Addr} {n : Nat} (cap : Nat) {ps : List Pg} {q : Nat} {RL : Int} {RS : List (List Int)} {m : Nat} {ok : Bool} {w : World} (h : ReadsG w ad ps) (hl : ps.length = n) (hok : okH ps = true) (hq : q ≤ n)
 (hCh : ∀ (a : Option Addr) (mm cc : Nat) (W : World), Below w.heap.size w W → ReadsS W a (ps.getD q pg0).2 → (ps.getD q pg0).2.length = mm → Calls Tryz.prog 105 #[.agg #[.int .i64 (ps.getD q pg0).1, .slice a mm cc], .pointer (some ⟨Bs, 0, none⟩), .pointer (some ⟨Bt, 0, none⟩), .pointer (some ⟨Bn, 0, none⟩)] W fun e W' => ∃ a' c', e = .returned (.tuple #[.agg #[.int .i64 RL, .slice a' m c'], .bool ok]) ∧ OwnP W' W.heap.size W'.heap.size (.slice a' m c') RS ∧ Below W.heap.size W W') :
 Calls Tryz.prog 63 #[.agg #[.slice ad n cap], .int .i64 (q : Int), .func (.func 105) #[] #[.pointer (some ⟨Bs, 0, none⟩), .pointer (some ⟨Bt, 0, none⟩), .pointer (some ⟨Bn, 0, none⟩)]] w fun e w' => AnsH (if ok = true then withH ps q (RL, RS) else []) ok w e w' := by
 have z1 := alloc_size w (.cells #[.slice ad n cap] 26)
 have z2 := alloc_size (w.alloc (.cells #[.slice ad n cap] 26)) (.cells #[.slice none 0 0] 26)
 have z3 := alloc_size ((w.alloc (.cells #[.slice ad n cap] 26)).alloc (.cells #[.slice none 0 0] 26)) (.cells #[.int .i64 0, .slice none 0 0] 87)
 have R0 : (((w.alloc (.cells #[.slice ad n cap] 26)).alloc (.cells #[.slice none 0 0] 26)).alloc (.cells #[.int .i64 0, .slice none 0 0] 87)).heap[w.heap.size]? = some (.cells #[.slice ad n cap] 26) := by
  rw [alloc_old _ _ _ (by omega), alloc_old _ _ _ (by omega)]; exact heap_alloc_new _ _
 have R1 : (((w.alloc (.cells #[.slice ad n cap] 26)).alloc (.cells #[.slice none 0 0] 26)).alloc (.cells #[.int .i64 0, .slice none 0 0] 87)).heap[w.heap.size + 1]? = some (.cells #[.slice none 0 0] 26) := by
  rw [alloc_old _ _ _ (by omega)]
  have := heap_alloc_new (w.alloc (.cells #[.slice ad n cap] 26)) (.cells #[.slice none 0 0] 26)
  rwa [z1] at this
 have R2 : (((w.alloc (.cells #[.slice ad n cap] 26)).alloc (.cells #[.slice none 0 0] 26)).alloc (.cells #[.int .i64 0, .slice none 0 0] 87)).heap[w.heap.size + 1 + 1]? = some (.cells #[.int .i64 0, .slice none 0 0] 87) := by
  have := heap_alloc_new ((w.alloc (.cells #[.slice ad n cap] 26)).alloc (.cells #[.slice none 0 0] 26)) (.cells #[.int .i64 0, .slice none 0 0] 87)
  rwa [z2, z1] at this
 have BW : Below w.heap.size w (((w.alloc (.cells #[.slice ad n cap] 26)).alloc (.cells #[.slice none 0 0] 26)).alloc (.cells #[.int .i64 0, .slice none 0 0] 87)) := (((Below.refl _ w).alloc (Nat.le_refl _) _).alloc (by omega) _).alloc (by omega) _
 have HZ := hid (show (((w.alloc (.cells #[.slice ad n cap] 26)).alloc (.cells #[.slice none 0 0] 26)).alloc (.cells #[.int .i64 0, .slice none 0 0] 87)).heap.size = w.heap.size + 3 by omega)
 have HX0 := hid R0
 have HX1 := hid R1
 have HX2 := hid R2
 have HBW := hid BW
 have HHR := hid h
 have HOK := hid hok
 have HCH := hid hCh
 have hn16 : n ≤ 16 := by have := (okH_of hok).1; omega
 have c0 : (((w.alloc (.cells #[.slice ad n cap] 26)).alloc (.cells #[.slice none 0 0] 26)).alloc (.cells #[.int .i64 0, .slice none 0 0] 87)).cell? ⟨w.heap.size, 0, none⟩ = some (.slice ad n cap) := cell_of_row _ _ 0 _ _ _ R0
 clear R0 R1 R2 BW z1 z2 z3 h hok hCh
 by_cases hqn : q < n
 · have hqn' : (q : Int) < (n : Int) := by omega
   have hq0 : (0 : Int) ≤ (q : Int) := by omega
   obtain ⟨b, off, pa, pc, rfl, hca0, hcx0, hr0, hmx⟩ := HHR.out.at (k := q) (by omega)
   have hbl := World.block_lt_of_cell? w _ hca0
   have hca := (HBW.out.cell (p := ⟨b, off + q * 2, none⟩) hbl).trans hca0
   have hcx := (HBW.out.cell (p := ⟨b, off + q * 2 + 1, none⟩) hbl).trans hcx0
   have HRP0 := hid hr0.rd
   generalize ps.getD q pg0 = p at *
   obtain ⟨A, ss⟩ := p
   obtain ⟨mm, hmm⟩ : ∃ m, ss.length = m := ⟨_, rfl⟩
   dsimp only at hca hcx HCH HRP0
   rw [hmm] at hcx
   have HMM := hid hmm
   clear hca0 hcx0 hr0 hmx hbl hmm
   go_enter Tryz.func63, Tryz.ntmps63
   have H2 := hid (show ((((w.alloc (.cells #[.slice (some ⟨b, off, none⟩) n cap] 26)).alloc (.cells #[.slice none 0 0] 26)).alloc (.cells #[.int .i64 0, .slice none 0 0] 87)).setRow (w.heap.size + 1 + 1) #[.int .i64 A, .slice pa mm pc]).heap[w.heap.size + 1 + 1]? = some (.cells #[.int .i64 A, .slice pa mm pc] 87) from setRow_heap _ _ _ _ _ _ HX2.out)
   go_wp2_with (first
    | (refine wpList_store_row rfl 87 (.tmp 8) (.tmp 20) rfl (w.heap.size + 1 + 1) #[.int .i64 A, .slice pa mm pc] rfl rfl 87 _ HX2.out ?a1 ?a2 ?a3 ?_)
    | (refine wpList_load_row rfl 87 (.tmp 8) rfl (w.heap.size + 1 + 1) rfl 87 _ (0, 0) _ H2.out Tryz.underlying87 rfl size_pg ?_))
   case a1 => simpa using size_pg
   try (case a2 => rfl)
   case a3 => simp [Value.oneCell']
   clear hca hcx c0
   have H0 := hid ((setRow_other _ _ _ #[.int .i64 A, .slice pa mm pc] (show w.heap.size ≠ w.heap.size + 1 + 1 by omega)).trans HX0.out)
   have H1 := hid ((setRow_other _ _ _ #[.int .i64 A, .slice pa mm pc] (show w.heap.size + 1 ≠ w.heap.size + 1 + 1 by omega)).trans HX1.out)
   have HB := hid (below_setRow HBW.out (show w.heap.size ≤ w.heap.size + 1 + 1 by omega) #[.int .i64 A, .slice pa mm pc])
   have HS := hid (show w.heap.size + 3 ≤ ((((w.alloc (.cells #[.slice (some ⟨b, off, none⟩) n cap] 26)).alloc (.cells #[.slice none 0 0] 26)).alloc (.cells #[.int .i64 0, .slice none 0 0] 87)).setRow (w.heap.size + 1 + 1) #[.int .i64 A, .slice pa mm pc]).heap.size by have := HZ.out; simp)
   have HRP := hid (HRP0.out.below HB.out (Nat.le_refl _))
   generalize (((w.alloc (.cells #[.slice (some ⟨b, off, none⟩) n cap] 26)).alloc (.cells #[.slice none 0 0] 26)).alloc (.cells #[.int .i64 0, .slice none 0 0] 87)).setRow (w.heap.size + 1 + 1) #[.int .i64 A, .slice pa mm pc] = W1 at *
   refine (HCH.out pa mm pc W1 HB.out HRP.out HMM.out).mono ?_
   rintro e W2 ⟨a', c', rfl, op, b2⟩
   have Q0 := hid ((b2.block w.heap.size (by have := HS.out; omega)).trans H0.out)
   have Q1 := hid ((b2.block (w.heap.size + 1) (by have := HS.out; omega)).trans H1.out)
   have HB2 := hid (HB.out.trans (b2.mono HB.out.size))
   have HR2 := hid (HHR.out.below HB2.out (Nat.le_refl _))
   have OP := hid op
   have HS2 := hid (show w.heap.size + 3 ≤ W1.heap.size ∧ W1.heap.size ≤ W2.heap.size from ⟨HS.out, b2.size⟩)
   clear b2 op H0 H1 H2 HRP
   cases ok with
   | false =>
    go_wp2_with (refine wpList_store_row rfl 26 (.tmp 6) (.tmp 29) rfl (w.heap.size + 1) #[.slice none 0 0] rfl rfl 26 _ (show (W2.alloc (.cells #[.int .i64 RL, .slice a' m c'] 87)).heap[w.heap.size + 1]? = some (.cells #[.slice none 0 0] 26) from (alloc_old _ _ _ (by have := HS2.out; omega)).trans Q1.out) ?s1 ?s2 ?s3 ?_)
    case s1 => simpa using size_hp
    try (case s2 => rfl)
    case s3 => simp [Value.oneCell']
    have hss := HS2.out
    refine bodyPost_ret (results_cell_tmp Tryz.results63 _ _ (w.heap.size + 1) 26 #[.slice none 0 0] (0, 0) _ rfl (setRow_heap _ _ _ _ _ _ ((alloc_old _ _ _ (by omega)).trans Q1.out)) Tryz.underlying26 rfl size_hp) rfl ?_
    exact AnsH.zero rfl (below_setRow (HB2.out.trans ((Below.alloc1 W2 _).mono HB2.out.size)) (by omega) _)
   | true =>
    have bX := Below.alloc1 W2 (.cells #[.int .i64 RL, .slice a' m c'] 87)
    have zX := alloc_size W2 (.cells #[.int .i64 RL, .slice a' m c'] 87)
    have rX := heap_alloc_new W2 (.cells #[.int .i64 RL, .slice a' m c'] 87)
    have hss := HS2.out
    have T0 := hid ((bX.block w.heap.size (by omega)).trans Q0.out)
    have T1 := hid ((bX.block (w.heap.size + 1) (by omega)).trans Q1.out)
    have HB3 := hid (HB2.out.trans (bX.mono HB2.out.size))
    have HR3 := hid (HR2.out.below bX (Nat.le_refl _))
    have OP3 := hid ((op_alloc OP.out (.cells #[.int .i64 RL, .slice a' m c'] 87)).mono (lo' := w.heap.size) (hi' := (W2.alloc (.cells #[.int .i64 RL, .slice a' m c'] 87)).heap.size) (by omega) bX.size)
    have t0 : (W2.alloc (.cells #[.int .i64 RL, .slice a' m c'] 87)).cell? ⟨w.heap.size, 0, none⟩ = some (.slice (some ⟨b, off, none⟩) n cap) := cell_of_row _ _ 0 _ _ _ T0.out
    have t2 : (W2.alloc (.cells #[.int .i64 RL, .slice a' m c'] 87)).cell? ⟨W2.heap.size, 0, none⟩ = some (.int .i64 RL) := cell_of_row _ _ 0 _ _ _ rX
    have t3 : (W2.alloc (.cells #[.int .i64 RL, .slice a' m c'] 87)).cell? ⟨W2.heap.size, 1, none⟩ = some (.slice a' m c') := cell_of_row _ _ 1 _ _ _ rX
    have HC := hid (impl_Hwith cap HR3.out hl HOK.out hq HB3.out.size OP3.out (RL := RL))
    clear bX rX Q0 Q1
    go_wp2_with fail
    refine HC.out.mono ?_
    rintro e W5 ⟨v5, c5, rfl, og, b5⟩
    have U1 := hid ((b5.block (w.heap.size + 1) (by omega)).trans T1.out)
    have HB5 := hid (HB3.out.trans (b5.mono HB3.out.size))
    have OG := hid og
    clear b5 og HC t0 t2 t3
    obtain ⟨N, hN⟩ : ∃ N, (withH ps q (RL, RS)).length = N := ⟨_, rfl⟩
    rw [hN] at OG ⊢
    have HN := hid hN
    clear hN
    go_wp2_with (refine wpList_store_row rfl 26 (.tmp 6) (.tmp 33) rfl (w.heap.size + 1) #[.slice v5 N c5] rfl rfl 26 _ U1.out ?u1 ?u2 ?u3 ?_)
    case u1 => simpa using size_hp
    try (case u2 => rfl)
    case u3 => simp [Value.oneCell']
    refine bodyPost_ret (results_cell_tmp Tryz.results63 _ _ (w.heap.size + 1) 26 #[.slice v5 N c5] (0, 0) _ rfl (setRow_heap _ _ _ _ _ _ U1.out) Tryz.underlying26 rfl size_hp) rfl ?_
    have hoB : W5.ownsRow 0 26 1 (.slice (some ⟨w.heap.size + 1, 0, none⟩) 1 1) 1 [.slice none 0 0] := ⟨rfl, .inr ⟨w.heap.size + 1, 1, #[.slice none 0 0], rfl, Nat.zero_le _, U1.out, Nat.le_refl _, by unfold maxLen; omega, rfl, rfl⟩⟩
    exact ⟨v5, c5, by rw [HN.out]; rfl, by rw [HN.out]; exact (OG.out.aside hoB (by decide) (by decide) (by decide) (grown_setRow10 _ _ _)).mono (Nat.le_refl _) (by simp), below_setRow HB5.out (by omega) _⟩
 · have hqn' : ¬ (q : Int) < (n : Int) := by omega
   have hpg : ps.getD q pg0 = pg0 := by rw [List.getD_eq_getElem?_getD, List.getElem?_eq_none (by omega)]; rfl
   rw [hpg] at HCH
   obtain ⟨A, hA⟩ : ∃ A : Int, A = 0 := ⟨_, rfl⟩
   have hpp : pg0 = (A, []) := by rw [hA]; rfl
   rw [hpp] at HCH
   obtain ⟨ss, hss⟩ : ∃ ss : List (List Int), ss = [] := ⟨_, rfl⟩
   rw [← hss] at HCH
   obtain ⟨pa, hpa⟩ : ∃ pa : Option Addr, pa = none := ⟨_, rfl⟩
   obtain ⟨mm, hmm⟩ : ∃ mm : Nat, mm = 0 := ⟨_, rfl⟩
   obtain ⟨pc, hpc⟩ : ∃ pc : Nat, pc = 0 := ⟨_, rfl⟩
   dsimp only at HCH
   have HMM := hid (show ss.length = mm by rw [hss, hmm]; rfl)
   have H0 := HX0
   have H1 := HX1
   have H2 := hid (show (((w.alloc (.cells #[.slice ad n cap] 26)).alloc (.cells #[.slice none 0 0] 26)).alloc (.cells #[.int .i64 0, .slice none 0 0] 87)).heap[w.heap.size + 1 + 1]? = some (.cells #[.int .i64 A, .slice pa mm pc] 87) by rw [hA, hpa, hmm, hpc]; exact HX2.out)
   have HB := HBW
   have HS := hid (show w.heap.size + 3 ≤ (((w.alloc (.cells #[.slice ad n cap] 26)).alloc (.cells #[.slice none 0 0] 26)).alloc (.cells #[.int .i64 0, .slice none 0 0] 87)).heap.size by have := HZ.out; omega)
   have HRP := hid (show ReadsS (((w.alloc (.cells #[.slice ad n cap] 26)).alloc (.cells #[.slice none 0 0] 26)).alloc (.cells #[.int .i64 0, .slice none 0 0] 87)) pa ss by rw [hss]; exact ⟨.inl rfl⟩)
   clear hpg hpp hss hA hpa hmm hpc
   go_enter Tryz.func63, Tryz.ntmps63
   go_wp2_with (first
    | (refine wpList_load_row rfl 87 (.tmp 8) rfl (w.heap.size + 1 + 1) rfl 87 _ (0, 0) _ H2.out Tryz.underlying87 rfl size_pg ?_))
   clear c0
   generalize ((w.alloc (.cells #[.slice ad n cap] 26)).alloc (.cells #[.slice none 0 0] 26)).alloc (.cells #[.int .i64 0, .slice none 0 0] 87) = W1 at *
   refine (HCH.out pa mm pc W1 HB.out HRP.out HMM.out).mono ?_
   rintro e W2 ⟨a', c', rfl, op, b2⟩
   have Q0 := hid ((b2.block w.heap.size (by have := HS.out; omega)).trans H0.out)
   have Q1 := hid ((b2.block (w.heap.size + 1) (by have := HS.out; omega)).trans H1.out)
   have HB2 := hid (HB.out.trans (b2.mono HB.out.size))
   have HR2 := hid (HHR.out.below HB2.out (Nat.le_refl _))
   have OP := hid op
   have HS2 := hid (show w.heap.size + 3 ≤ W1.heap.size ∧ W1.heap.size ≤ W2.heap.size from ⟨HS.out, b2.size⟩)
   clear b2 op H0 H1 H2 HRP
   cases ok with
   | false =>
    go_wp2_with (refine wpList_store_row rfl 26 (.tmp 6) (.tmp 29) rfl (w.heap.size + 1) #[.slice none 0 0] rfl rfl 26 _ (show (W2.alloc (.cells #[.int .i64 RL, .slice a' m c'] 87)).heap[w.heap.size + 1]? = some (.cells #[.slice none 0 0] 26) from (alloc_old _ _ _ (by have := HS2.out; omega)).trans Q1.out) ?s1 ?s2 ?s3 ?_)
    case s1 => simpa using size_hp
    try (case s2 => rfl)
    case s3 => simp [Value.oneCell']
    have hss := HS2.out
    refine bodyPost_ret (results_cell_tmp Tryz.results63 _ _ (w.heap.size + 1) 26 #[.slice none 0 0] (0, 0) _ rfl (setRow_heap _ _ _ _ _ _ ((alloc_old _ _ _ (by omega)).trans Q1.out)) Tryz.underlying26 rfl size_hp) rfl ?_
    exact AnsH.zero rfl (below_setRow (HB2.out.trans ((Below.alloc1 W2 _).mono HB2.out.size)) (by omega) _)
   | true =>
    have bX := Below.alloc1 W2 (.cells #[.int .i64 RL, .slice a' m c'] 87)
    have zX := alloc_size W2 (.cells #[.int .i64 RL, .slice a' m c'] 87)
    have rX := heap_alloc_new W2 (.cells #[.int .i64 RL, .slice a' m c'] 87)
    have hss := HS2.out
    have T0 := hid ((bX.block w.heap.size (by omega)).trans Q0.out)
    have T1 := hid ((bX.block (w.heap.size + 1) (by omega)).trans Q1.out)
    have HB3 := hid (HB2.out.trans (bX.mono HB2.out.size))
    have HR3 := hid (HR2.out.below bX (Nat.le_refl _))
    have OP3 := hid ((op_alloc OP.out (.cells #[.int .i64 RL, .slice a' m c'] 87)).mono (lo' := w.heap.size) (hi' := (W2.alloc (.cells #[.int .i64 RL, .slice a' m c'] 87)).heap.size) (by omega) bX.size)
    have t0 : (W2.alloc (.cells #[.int .i64 RL, .slice a' m c'] 87)).cell? ⟨w.heap.size, 0, none⟩ = some (.slice ad n cap) := cell_of_row _ _ 0 _ _ _ T0.out
    have t2 : (W2.alloc (.cells #[.int .i64 RL, .slice a' m c'] 87)).cell? ⟨W2.heap.size, 0, none⟩ = some (.int .i64 RL) := cell_of_row _ _ 0 _ _ _ rX
    have t3 : (W2.alloc (.cells #[.int .i64 RL, .slice a' m c'] 87)).cell? ⟨W2.heap.size, 1, none⟩ = some (.slice a' m c') := cell_of_row _ _ 1 _ _ _ rX
    have HC := hid (impl_Hwith cap HR3.out hl HOK.out hq HB3.out.size OP3.out (RL := RL))
    clear bX rX Q0 Q1
    go_wp2_with fail
    refine HC.out.mono ?_
    rintro e W5 ⟨v5, c5, rfl, og, b5⟩
    have U1 := hid ((b5.block (w.heap.size + 1) (by omega)).trans T1.out)
    have HB5 := hid (HB3.out.trans (b5.mono HB3.out.size))
    have OG := hid og
    clear b5 og HC t0 t2 t3
    obtain ⟨N, hN⟩ : ∃ N, (withH ps q (RL, RS)).length = N := ⟨_, rfl⟩
    rw [hN] at OG ⊢
    have HN := hid hN
    clear hN
    go_wp2_with (refine wpList_store_row rfl 26 (.tmp 6) (.tmp 33) rfl (w.heap.size + 1) #[.slice v5 N c5] rfl rfl 26 _ U1.out ?u1 ?u2 ?u3 ?_)
    case u1 => simpa using size_hp
    try (case u2 => rfl)
    case u3 => simp [Value.oneCell']
    refine bodyPost_ret (results_cell_tmp Tryz.results63 _ _ (w.heap.size + 1) 26 #[.slice v5 N c5] (0, 0) _ rfl (setRow_heap _ _ _ _ _ _ U1.out) Tryz.underlying26 rfl size_hp) rfl ?_
    have hoB : W5.ownsRow 0 26 1 (.slice (some ⟨w.heap.size + 1, 0, none⟩) 1 1) 1 [.slice none 0 0] := ⟨rfl, .inr ⟨w.heap.size + 1, 1, #[.slice none 0 0], rfl, Nat.zero_le _, U1.out, Nat.le_refl _, by unfold maxLen; omega, rfl, rfl⟩⟩
    exact ⟨v5, c5, by rw [HN.out]; rfl, by rw [HN.out]; exact (OG.out.aside hoB (by decide) (by decide) (by decide) (grown_setRow10 _ _ _)).mono (Nat.le_refl _) (by simp), below_setRow HB5.out (by omega) _⟩
end Go.Proofs.YtkfhfjghfadofaaGreat
/- The contracts of GetNum, the specification's and the program's: both answer 'numOf', 'numOk' of what is read, and leave memory as it was. For every argument. -/




namespace Go.Proofs.YtkfhfjghfadofaaGreat
set_option maxRecDepth 100000
open Go.RowKit
set_option maxHeartbeats 1600000 in
theorem spec_GetNum_yes (b off n cap at' size : Nat) (zs : List Int) (w : World) (hn : n ≤ 2097152) (hz : zs.length = n) (h1 : 1 ≤ size) (h8 : size ≤ 8) (hl : at' + size ≤ n)
 (hbd : ∀ j, 0 ≤ byteFrom zs at' j ∧ byteFrom zs at' j ≤ 255)
 (hc : ∀ j, j < size → w.cell? ⟨b, off + (at' + j), none⟩ = some (.int .u8 (byteFrom zs at' j))) :
 Calls Tryz.prog 98 #[.slice (some ⟨b, off, none⟩) n cap, .int .i64 at', .int .i64 size] w fun e w' =>
  e = .returned (.tuple #[.int .i64 (numOf zs at' size), .bool (numOk zs at' size)]) ∧ w' = w := by
 have Hno := hid (num_big zs at' size)
 have Hyes := hid (num_yes zs at' size h1 h8 (by omega))
 generalize byteFrom zs at' = f at hbd hc Hno Hyes
 go_enter Tryz.func98, Tryz.ntmps98
 go_wp2
 go_loopw [8, 9, 10] (fun sn i _ wr => ∃ k : Nat, k ≤ size ∧ i = .int .i64 ((k : Int) - 1) ∧ sn = .int .i64 (val f k (size - k)) ∧ (size = 8 → k ≤ 7 → f 7 ≤ 127) ∧ wr = w) (fun _ i _ _ => (intOf i + 1).toNat)
 case atStart => exact ⟨size, Nat.le_refl _, by go_num, by rw [Nat.sub_self]; rfl, fun h h' => by omega, rfl⟩
 case round =>
  obtain ⟨k, hk, rfl, rfl, ht, rfl⟩ := hrel
  by_cases hlt : k = 0
  · subst hlt
    have hv : val f 0 (size - 0) ≤ 9223372036854775807 := by
     by_cases e : size = 8
     · subst e
       have := val_top f hbd 7 0 (ht rfl (by omega))
       have : (256 : Int) ^ 7 = 72057594037927936 := by decide
       have e8 : val f 0 (8 - 0) = val f 0 (7 + 1) := rfl
       omega
     · have := val_in f hbd 1 size (by omega) h1 h8 (fun h => absurd h e)
       have := hbd 0
       have hst := val_step f 0 size (by omega)
       simp only [Nat.zero_add] at hst
       omega
    have Hv := hid hv
    clear hv ht
    go_wp2
    go_ret2
    obtain ⟨e1, e2⟩ := Hyes.out Hv.out
    rw [e1, e2]
    exact ⟨rfl, rfl⟩
  · obtain ⟨j, rfl⟩ : ∃ j, k = j + 1 := ⟨k - 1, by omega⟩
    have hb := hbd j
    have hcell := hc j (by omega)
    have hv := val_in f hbd (j + 1) size (by omega) hk h8 ht
    have hv0 := val_nonneg f hbd (size - (j + 1)) (j + 1)
    have hs := hid (val_step f j size (by omega))
    have HT := hid ht
    clear ht hc
    generalize val f (j + 1) (size - (j + 1)) = V at hv hv0 hs
    by_cases h7 : j = 7
    · have h7' : ((j : Int) == 7) = true := beq_iff_eq.2 (by omega)
      have e7 := hid h7
      have e8 : Hid (size = 8) := by have : size = 8 := by omega
                                     exact this
      clear h7
      by_cases hx : 127 < f j
      · go_wp2
        go_ret2
        obtain ⟨e1, e2⟩ := Hno.out (by
         have := val_top_ge f hbd 7 0 (by rw [Nat.zero_add, ← e7.out]; omega)
         have : (256 : Int) ^ 7 = 72057594037927936 := by decide
         have e9 : val f 0 size = val f 0 (7 + 1) := by rw [e8.out]
         omega)
        rw [e1, e2]
        exact ⟨rfl, rfl⟩
      · go_wp2
        go_roundw
        case rel => exact ⟨j, by omega, by go_num, by rw [hs.out], fun _ _ => by rw [← e7.out]; omega, by first | trivial | rfl⟩
        case measure => simp [intOf]
    · have h7' : ((j : Int) == 7) = false := beq_eq_false_iff_ne.2 (by omega)
      go_wp2
      go_roundw
      case rel => exact ⟨j, by omega, by go_num, by rw [hs.out], fun h h' => HT.out h (by omega), by first | trivial | rfl⟩
      case measure => simp [intOf]
theorem or_byte (V x : Int) (h0 : 0 ≤ V) (h1 : V ≤ 72057594037927935) (h2 : 0 ≤ x) (h3 : x ≤ 255) : bits .or .u64 (V * 256) x = V * 256 + x := by
 obtain ⟨v, rfl⟩ := Int.eq_ofNat_of_zero_le h0
 obtain ⟨y, rfl⟩ := Int.eq_ofNat_of_zero_le h2
 rw [u64_or _ _ (by omega) (by omega) (by omega) (by omega)]
 have e : ((v : Int) * 256).toNat = v <<< 8 := by rw [Nat.shiftLeft_eq]; omega
 rw [e, Int.toNat_natCast, ← Nat.shiftLeft_add_eq_or_of_lt (by omega), Nat.shiftLeft_eq]
 omega
set_option maxHeartbeats 1600000 in
theorem impl_GetNum_yes (b off n cap at' size : Nat) (zs : List Int) (w : World) (hn : n ≤ 2097152) (hz : zs.length = n) (h1 : 1 ≤ size) (h8 : size ≤ 8) (hl : at' + size ≤ n)
 (hbd : ∀ j, 0 ≤ byteFrom zs at' j ∧ byteFrom zs at' j ≤ 255)
 (hc : ∀ j, j < size → w.cell? ⟨b, off + (at' + j), none⟩ = some (.int .u8 (byteFrom zs at' j))) :
 Calls Tryz.prog 166 #[.slice (some ⟨b, off, none⟩) n cap, .int .i64 at', .int .i64 size] w fun e w' =>
  e = .returned (.tuple #[.int .i64 (numOf zs at' size), .bool (numOk zs at' size)]) ∧ w' = w := by
 have Hno := hid (num_big zs at' size)
 have Hyes := hid (num_yes zs at' size h1 h8 (by omega))
 generalize byteFrom zs at' = f at hbd hc Hno Hyes
 go_enter Tryz.func166, Tryz.ntmps166
 go_wp2
 go_loopw [8, 9] (fun sn i wr => ∃ k : Nat, k ≤ size ∧ i = .int .i64 ((at' : Int) + k - 1) ∧ sn = .int .u64 (val f k (size - k)) ∧ wr = w) (fun _ i _ => (intOf i + 1 - at').toNat)
 case atStart => exact ⟨size, Nat.le_refl _, by go_num, by rw [Nat.sub_self]; rfl, rfl⟩
 case round =>
  obtain ⟨k, hk, rfl, rfl, rfl⟩ := hrel
  by_cases hlt : k = 0
  · subst hlt
    have hv := val_64 f hbd 0 size h8
    have hv0 := val_nonneg f hbd (size - 0) 0
    rw [Nat.sub_zero] at hv hv0
    simp only [Nat.sub_zero]
    generalize val f 0 size = V at *
    by_cases hV : V ≤ 9223372036854775807
    · go_wp2
      go_ret2
      obtain ⟨e1, e2⟩ := Hyes.out hV
      rw [e1, e2]
      exact ⟨rfl, rfl⟩
    · go_wp2
      go_ret2
      obtain ⟨e1, e2⟩ := Hno.out (by omega)
      rw [e1, e2]
      exact ⟨rfl, rfl⟩
  · obtain ⟨j, rfl⟩ : ∃ j, k = j + 1 := ⟨k - 1, by omega⟩
    have hb := hbd j
    have hcell := hc j (by omega)
    have hv := val_56 f hbd (j + 1) size (by omega) h8
    have hv0 := val_nonneg f hbd (size - (j + 1)) (j + 1)
    have hs := hid (val_step f j size (by omega))
    generalize val f (j + 1) (size - (j + 1)) = V at *
    have hor := hid (or_byte V (f j) hv0 hv hb.1 hb.2)
    clear hc
    go_wp2
    go_roundw
    case rel => exact ⟨j, by omega, by go_num, by rw [hs.out, hor.out], by first | trivial | rfl⟩
    case measure => simp [intOf]; omega
set_option maxHeartbeats 1600000 in
theorem spec_GetNum_no (ad : Option Addr) (n cap : Nat) (at' size : Int) (w : World) (_hn : n ≤ 2097152) (hs : size ≤ 9223372036854775807) (ha : at' ≤ 9223372036854775807) (ha' : -9223372036854775808 ≤ at') (h : ¬ (1 ≤ size ∧ size ≤ 8 ∧ 0 ≤ at' ∧ at' + size ≤ n)) :
 Calls Tryz.prog 98 #[.slice ad n cap, .int .i64 at', .int .i64 size] w fun e w' => e = .returned (.tuple #[.int .i64 0, .bool false]) ∧ w' = w := by
 by_cases a1 : size < 1
 · go_enter Tryz.func98, Tryz.ntmps98
   go_wp2
   go_ret2
   exact ⟨rfl, rfl⟩
 by_cases a2 : 8 < size
 · go_enter Tryz.func98, Tryz.ntmps98
   go_wp2
   go_ret2
   exact ⟨rfl, rfl⟩
 by_cases a3 : at' < 0
 · go_enter Tryz.func98, Tryz.ntmps98
   go_wp2
   go_ret2
   exact ⟨rfl, rfl⟩
 by_cases a4 : (n : Int) < at'
 · go_enter Tryz.func98, Tryz.ntmps98
   go_wp2
   go_ret2
   exact ⟨rfl, rfl⟩
 have a5 : (n : Int) - at' < size := by omega
 go_enter Tryz.func98, Tryz.ntmps98
 go_wp2
 go_ret2
 exact ⟨rfl, rfl⟩
set_option maxHeartbeats 1600000 in
theorem impl_GetNum_no (ad : Option Addr) (n cap : Nat) (at' size : Int) (w : World) (hn : n ≤ 2097152) (hs : size ≤ 9223372036854775807) (ha : at' ≤ 9223372036854775807) (ha' : -9223372036854775808 ≤ at') (h : ¬ (1 ≤ size ∧ size ≤ 8 ∧ 0 ≤ at' ∧ at' + size ≤ n)) :
 Calls Tryz.prog 166 #[.slice ad n cap, .int .i64 at', .int .i64 size] w fun e w' => e = .returned (.tuple #[.int .i64 0, .bool false]) ∧ w' = w := by
 by_cases a1 : size < 1
 · go_enter Tryz.func166, Tryz.ntmps166
   go_wp2
   go_ret2
   exact ⟨rfl, rfl⟩
 by_cases a2 : 8 < size
 · go_enter Tryz.func166, Tryz.ntmps166
   go_wp2
   go_ret2
   exact ⟨rfl, rfl⟩
 by_cases a3 : at' < 0
 · go_enter Tryz.func166, Tryz.ntmps166
   go_wp2
   go_ret2
   exact ⟨rfl, rfl⟩
 have a5 : (n : Int) - size < at' := by omega
 go_enter Tryz.func166, Tryz.ntmps166
 go_wp2
 go_ret2
 exact ⟨rfl, rfl⟩
theorem from_reads {ad : Option Addr} {n : Nat} {zs : List Int} {w : World} (h : Reads w ad n zs) {at' size : Nat} (h1 : 1 ≤ size) (hl : at' + size ≤ n) :
 ∃ b off, ad = some ⟨b, off, none⟩ ∧ (∀ j, 0 ≤ byteFrom zs at' j ∧ byteFrom zs at' j ≤ 255) ∧ ∀ j, j < size → w.cell? ⟨b, off + (at' + j), none⟩ = some (.int .u8 (byteFrom zs at' j)) := by
 rcases h.cells with h0 | ⟨b, off, rfl, hc⟩
 · omega
 · exact ⟨b, off, rfl, fun j => h.bd (at' + j), fun j hj => hc (at' + j) (by omega)⟩
theorem spec_GetNum {ad : Option Addr} {n : Nat} (cap : Nat) {zs : List Int} {w : World} (h : Reads w ad n zs) (hn : n ≤ 2097152) (at' size : Int) (hs : size ≤ 9223372036854775807) (ha : at' ≤ 9223372036854775807) (ha' : -9223372036854775808 ≤ at') :
 Calls Tryz.prog 98 #[.slice ad n cap, .int .i64 at', .int .i64 size] w fun e w' => e = .returned (.tuple #[.int .i64 (numOf zs at' size), .bool (numOk zs at' size)]) ∧ w' = w := by
 by_cases hc : 1 ≤ size ∧ size ≤ 8 ∧ 0 ≤ at' ∧ at' + size ≤ n
 · obtain ⟨A, rfl⟩ := Int.eq_ofNat_of_zero_le hc.2.2.1
   obtain ⟨S, rfl⟩ := Int.eq_ofNat_of_zero_le (show 0 ≤ size by omega)
   obtain ⟨b, off, rfl, h1, h2⟩ := from_reads h (at' := A) (size := S) (by omega) (by omega)
   exact spec_GetNum_yes b off n cap A S zs w hn h.len (by omega) (by omega) (by omega) h1 h2
 · obtain ⟨e1, e2⟩ := num_no zs at' size (by rw [h.len]; exact hc)
   rw [e1, e2]
   exact spec_GetNum_no ad n cap at' size w hn hs ha ha' hc
theorem impl_GetNum {ad : Option Addr} {n : Nat} (cap : Nat) {zs : List Int} {w : World} (h : Reads w ad n zs) (hn : n ≤ 2097152) (at' size : Int) (hs : size ≤ 9223372036854775807) (ha : at' ≤ 9223372036854775807) (ha' : -9223372036854775808 ≤ at') :
 Calls Tryz.prog 166 #[.slice ad n cap, .int .i64 at', .int .i64 size] w fun e w' => e = .returned (.tuple #[.int .i64 (numOf zs at' size), .bool (numOk zs at' size)]) ∧ w' = w := by
 by_cases hc : 1 ≤ size ∧ size ≤ 8 ∧ 0 ≤ at' ∧ at' + size ≤ n
 · obtain ⟨A, rfl⟩ := Int.eq_ofNat_of_zero_le hc.2.2.1
   obtain ⟨S, rfl⟩ := Int.eq_ofNat_of_zero_le (show 0 ≤ size by omega)
   obtain ⟨b, off, rfl, h1, h2⟩ := from_reads h (at' := A) (size := S) (by omega) (by omega)
   exact impl_GetNum_yes b off n cap A S zs w hn h.len (by omega) (by omega) (by omega) h1 h2
 · obtain ⟨e1, e2⟩ := num_no zs at' size (by rw [h.len]; exact hc)
   rw [e1, e2]
   exact impl_GetNum_no ad n cap at' size w hn hs ha ha' hc
end Go.Proofs.YtkfhfjghfadofaaGreat
/- The contract of the program's cutPart. Conditions: lists of at most 2^21 bytes. -/




namespace Go.Proofs.YtkfhfjghfadofaaGreat
open Go.RowKit
set_option maxRecDepth 100000
theorem num_one {zs : List Int} (hz : ∀ i, 0 ≤ zs.getD i 0 ∧ zs.getD i 0 ≤ 255) (h : 1 ≤ zs.length) : numOk zs 0 1 = true ∧ numOf zs 0 1 = zs.getD 0 0 := by
 have ev : val (byteFrom zs 0) 0 1 = zs.getD 0 0 := by simp [val, byteFrom]
 have := num_yes zs 0 1 (by omega) (by omega) (by omega) (by rw [ev]; have := hz 0; omega)
 rw [ev] at this
 exact this
theorem num_none {zs : List Int} (h : zs.length = 0) : numOk zs 0 1 = false ∧ numOf zs 0 1 = 0 := num_no zs 0 1 (by omega)
set_option maxHeartbeats 1600000 in
theorem cut_no {ad : Option Addr} {n : Nat} (cap : Nat) {zs : List Int} {w : World} (h : Reads w ad n zs) (hn : n ≤ 2097152) (hno : n = 0 ∨ (n : Int) - 1 < zs.getD 0 0) :
 Calls Tryz.prog 167 #[.slice ad n cap] w fun e w' => e = .returned (.tuple #[.slice none 0 0, .slice none 0 0, .bool false]) ∧ w' = w := by
 have hg := impl_GetNum cap h hn 0 1 (by omega) (by omega) (by omega)
 have hl := h.len
 rcases Nat.eq_zero_or_pos n with h0 | h0
 · subst h0
   rw [(num_none (zs := zs) (by omega)).1, (num_none (zs := zs) (by omega)).2] at hg
   clear hno hl h hn
   go_enter Tryz.func167, Tryz.ntmps167
   go_wp2_with fail
   refine hg.mono ?_
   rintro e w1 ⟨rfl, h1⟩
   subst w1
   go_wp2_with fail
   exact bodyPost_ret (v := .tuple #[_, _, _]) (by simp [results, Tryz.results167, go_sem]) rfl ⟨rfl, rfl⟩
 · rw [(num_one h.bd (by omega)).1, (num_one h.bd (by omega)).2] at hg
   have hb := h.bd 0
   have hlt : (n : Int) - 1 < zs.getD 0 0 := by omega
   generalize zs.getD 0 0 = s at *
   clear hno h hl h0
   go_enter Tryz.func167, Tryz.ntmps167
   go_wp2_with fail
   refine hg.mono ?_
   rintro e w1 ⟨rfl, h1⟩
   subst w1
   go_wp2_with fail
   exact bodyPost_ret (v := .tuple #[_, _, _]) (by simp [results, Tryz.results167, go_sem]) rfl ⟨rfl, rfl⟩
set_option maxHeartbeats 3200000 in
theorem cut_one {b off : Nat}  {zs : List Int} {w : World} (h : Reads w (some ⟨b, off, none⟩) 1 zs) (hs : zs.getD 0 0 = 0) :
 Calls Tryz.prog 167 #[.slice (some ⟨b, off, none⟩) 1 1] w fun e w' => e = .returned (.tuple #[.slice (some ⟨b, off, none⟩) 0 0, .slice (some ⟨b, off, none⟩) 0 0, .bool true]) ∧ Still w w' := by
 have hg := impl_GetNum 1 h (by omega) 0 1 (by omega) (by omega) (by omega)
 have hl := h.len
 rw [(num_one h.bd (by omega)).1, (num_one h.bd (by omega)).2, hs] at hg
 clear h hs hl
 go_enter Tryz.func167, Tryz.ntmps167
 go_wp2_with fail
 refine hg.mono ?_
 rintro e w1 ⟨rfl, h1⟩
 subst w1
 clear hg
 go_wp2_with fail
 go_quiet (fail)
 go_wp2_with fail
 exact bodyPost_ret (v := .tuple #[_, _, _]) (by simp [results, Tryz.results167, go_sem]) rfl ⟨rfl, Still.drewN _ _⟩
set_option maxHeartbeats 3200000 in
theorem cut_end {b off : Nat} {s : Nat} {zs : List Int} {w : World} (h : Reads w (some ⟨b, off, none⟩) (1 + s) zs) (hs : zs.getD 0 0 = (s : Int)) (h1 : 1 ≤ s) (hm : s ≤ 1000) :
 Calls Tryz.prog 167 #[.slice (some ⟨b, off, none⟩) (1 + s) (1 + s)] w fun e w' => e = .returned (.tuple #[.slice (some ⟨b, off + 1, none⟩) s s, .slice (some ⟨b, off, none⟩) 0 0, .bool true]) ∧ Still w w' := by
 have hg := impl_GetNum (1 + s) h (by omega) 0 1 (by omega) (by omega) (by omega)
 have hl := h.len
 rw [(num_one h.bd (by omega)).1, (num_one h.bd (by omega)).2, hs] at hg
 clear h hs hl
 go_enter Tryz.func167, Tryz.ntmps167
 go_wp2_with fail
 refine hg.mono ?_
 rintro e w1 ⟨rfl, h1⟩
 subst w1
 clear hg
 go_wp2_with fail
 go_quiet (fail)
 go_wp2_with fail
 exact bodyPost_ret (v := .tuple #[_, _, _]) (by simp [results, Tryz.results167, go_sem]) rfl ⟨rfl, Still.drewN _ _⟩
set_option maxHeartbeats 3200000 in
theorem cut_mid {b off : Nat} {s n : Nat} (cap : Nat) {zs : List Int} {w : World} (h : Reads w (some ⟨b, off, none⟩) n zs) (hs : zs.getD 0 0 = (s : Int)) (hsn : 1 + s ≤ n) (hc : n ≤ cap) (hsc : 1 + s < cap) (hn : n ≤ 2097152) :
 Calls Tryz.prog 167 #[.slice (some ⟨b, off, none⟩) n cap] w fun e w' => e = .returned (.tuple #[.slice (some ⟨b, off + 1, none⟩) s (cap - 1), .slice (some ⟨b, off + (1 + s), none⟩) (n - (1 + s)) (cap - (1 + s)), .bool true]) ∧ Still w w' := by
 have hg := impl_GetNum cap h (by omega) 0 1 (by omega) (by omega) (by omega)
 have hl := h.len
 rw [(num_one h.bd (by omega)).1, (num_one h.bd (by omega)).2, hs] at hg
 have i1 : ¬ (n : Int) - 1 < (s : Int) := by omega
 have i2 : (1 : Int) ≤ 1 + (s : Int) := by omega
 have i3 : 1 + (s : Int) ≤ (cap : Int) := by omega
 have i4 : 1 + (s : Int) ≤ (n : Int) := by omega
 have i5 : (n : Int) ≤ (cap : Int) := by omega
 have i6 : ¬ cap = 1 := by omega
 have i7 : ¬ cap = 1 + s := by omega
 clear h hs hl
 go_enter Tryz.func167, Tryz.ntmps167
 go_wp2_with fail
 refine hg.mono ?_
 rintro e w1 ⟨rfl, h1⟩
 subst w1
 clear hg
 go_wp2_with fail
 go_quiet (fail)
 go_wp2_with fail
 exact bodyPost_ret (v := .tuple #[_, _, _]) (by simp [results, Tryz.results167, go_sem]) rfl ⟨rfl, Still.drewN _ _⟩
end Go.Proofs.YtkfhfjghfadofaaGreat
/- A laid tuple in memory. No statement of its own; no conditions. -/

namespace Go.Proofs.YtkfhfjghfadofaaGreat
open Go.RowKit
set_option maxRecDepth 100000
theorem size_laid : (Tryz.prog.info? 162).map (·.size) = some 4 := by kernel_rfl
theorem grown_setRow {g : Nat} {cs : Array Value} {t : TypeId} (w : World) (q : Nat) (R : Array Value) (_ : w.heap[g]? = some (.cells cs t (0, 0))) : w.grownBy (w.setRow q R) (some q) :=
 ⟨rfl, rfl, rfl, by simp, fun i _ hne => setRow_other _ _ _ _ (fun e => hne (by rw [e]))⟩
theorem cells4_below {w w' : World} {g : Nat} {a b c d : Value} (h : w.cell? ⟨g, 0, none⟩ = some a ∧ w.cell? ⟨g, 1, none⟩ = some b ∧ w.cell? ⟨g, 2, none⟩ = some c ∧ w.cell? ⟨g, 3, none⟩ = some d) (e : Below w.heap.size w w') :
 w'.cell? ⟨g, 0, none⟩ = some a ∧ w'.cell? ⟨g, 1, none⟩ = some b ∧ w'.cell? ⟨g, 2, none⟩ = some c ∧ w'.cell? ⟨g, 3, none⟩ = some d := by
 have hl : g < w.heap.size := World.block_lt_of_cell? w _ h.1
 exact ⟨(e.cell (p := ⟨g, 0, none⟩) hl).trans h.1, (e.cell (p := ⟨g, 1, none⟩) hl).trans h.2.1, (e.cell (p := ⟨g, 2, none⟩) hl).trans h.2.2.1, (e.cell (p := ⟨g, 3, none⟩) hl).trans h.2.2.2⟩
end Go.Proofs.YtkfhfjghfadofaaGreat
/- The contract of the program's laidIn. Conditions: lists of at most 2^20 bytes. -/



namespace Go.Proofs.YtkfhfjghfadofaaGreat
open Go.RowKit
set_option maxRecDepth 100000
theorem Reads.sub {w : World} {b off n : Nat} {zs : List Int} (h : Reads w (some ⟨b, off, none⟩) n zs) (k l : Nat) (hk : k + l ≤ n) : Reads w (some ⟨b, off + k, none⟩) l ((zs.drop k).take l) := by
 have hl := h.len
 refine ⟨by simp; omega, ?_, take_bd (drop_bd h.bd k) l⟩
 rcases h.cells with h0 | ⟨b', off', e, hc⟩
 · exact .inl (by omega)
 · cases e
   refine .inr ⟨b, off + k, rfl, fun i hi => ?_⟩
   have := hc (k + i) (by omega)
   rw [Nat.add_assoc, this]
   simp [List.getD, List.getElem?_drop, hi]
theorem Reads.zero {w : World} (ad : Option Addr) : Reads w ad 0 [] := ⟨rfl, .inl rfl, by simp⟩
theorem Reads.cast {w : World} {ad : Option Addr} {n n' : Nat} {zs zs' : List Int} (h : Reads w ad n zs) (e : n = n') (ez : zs = zs') : Reads w ad n' zs' := by subst e; subst ez; exact h
theorem cut_yes {ad : Option Addr} {n : Nat} (cap : Nat) {zs : List Int} {w : World} (h : Reads w ad n zs) (hn : n ≤ 2097152) (hc : n ≤ cap) {s : Nat} (hs : zs.getD 0 0 = (s : Int)) (h1 : 1 + s ≤ n) :
 Calls Tryz.prog 167 #[.slice ad n cap] w fun e w' => ∃ a1 c1 a2 c2, e = .returned (.tuple #[.slice a1 s c1, .slice a2 (n - (1 + s)) c2, .bool true]) ∧ Hid (∀ U, Reads U ad n zs → Reads U a1 s ((zs.drop 1).take s)) ∧ s ≤ c1 ∧ Hid (∀ U, Reads U ad n zs → Reads U a2 (n - (1 + s)) (zs.drop (1 + s))) ∧ n - (1 + s) ≤ c2 ∧ Still w w' := by
 have hl := h.len
 have hb := h.bd 0
 obtain ⟨b, off, rfl⟩ := h.pos (by omega)
 have r1 : ∀ U, Reads U (some ⟨b, off, none⟩) n zs → Reads U (some ⟨b, off + 1, none⟩) s ((zs.drop 1).take s) := fun U h => h.sub 1 s (by omega)
 have r2 : ∀ U, Reads U (some ⟨b, off, none⟩) n zs → Reads U (some ⟨b, off + (1 + s), none⟩) (n - (1 + s)) (zs.drop (1 + s)) := fun U h => by
  have r := h.sub (1 + s) (n - (1 + s)) (by omega)
  rw [List.take_of_length_le (by simp; omega)] at r
  exact r
 by_cases hc1 : 1 + s < cap
 · refine (cut_mid cap h hs h1 hc hc1 hn).mono ?_
   rintro e w' ⟨rfl, st⟩
   exact ⟨_, _, _, _, rfl, hid r1, by omega, hid r2, by omega, st⟩
 · obtain rfl : cap = 1 + s := by omega
   obtain rfl : n = 1 + s := by omega
   have e0 : zs.drop (1 + s) = [] := List.drop_eq_nil_of_le (by omega)
   have e1 : 1 + s - (1 + s) = 0 := by omega
   rw [e0, e1]
   rcases Nat.eq_zero_or_pos s with rfl | hs0
   · refine (cut_one h hs).mono ?_
     rintro e w' ⟨rfl, st⟩
     exact ⟨_, _, _, _, rfl, hid (fun U _ => (Reads.zero _).cast rfl (by simp)), Nat.le_refl _, hid (fun U _ => Reads.zero _), Nat.le_refl _, st⟩
   · refine (cut_end h hs hs0 (by omega)).mono ?_
     rintro e w' ⟨rfl, st⟩
     exact ⟨_, _, _, _, rfl, hid r1, Nat.le_refl _, hid (fun U _ => Reads.zero _), Nat.le_refl _, st⟩
theorem laid_rows (w : World) (A B : Int) : ((w.alloc (.cells #[.int .i64 0, .int .i64 0, .slice none 0 0, .slice none 0 0] 162)).alloc (.cells #[.int .i64 A, .int .i64 B, .slice none 0 0, .slice none 0 0] 162)).heap[w.heap.size]? = some (.cells #[.int .i64 0, .int .i64 0, .slice none 0 0, .slice none 0 0] 162) ∧ ((w.alloc (.cells #[.int .i64 0, .int .i64 0, .slice none 0 0, .slice none 0 0] 162)).alloc (.cells #[.int .i64 A, .int .i64 B, .slice none 0 0, .slice none 0 0] 162)).heap[w.heap.size + 1]? = some (.cells #[.int .i64 A, .int .i64 B, .slice none 0 0, .slice none 0 0] 162) ∧ Below w.heap.size w ((w.alloc (.cells #[.int .i64 0, .int .i64 0, .slice none 0 0, .slice none 0 0] 162)).alloc (.cells #[.int .i64 A, .int .i64 B, .slice none 0 0, .slice none 0 0] 162)) :=
 ⟨(two_rows w _ _).1, (two_rows w _ _).2.1, two w _ _⟩
theorem laid_set {w : World} {g : Nat} {A B : Int} (hg : w.heap[g + 1]? = some (.cells #[.int .i64 A, .int .i64 B, .slice none 0 0, .slice none 0 0] 162)) (hr : w.heap[g]? = some (.cells #[.int .i64 0, .int .i64 0, .slice none 0 0, .slice none 0 0] 162)) (k v : Value) :
 w.cell? ⟨g + 1, 2, none⟩ = some (.slice none 0 0) ∧ w.frozen? ⟨g + 1, 2, none⟩ = false ∧ (w.setCell ⟨g + 1, 2, none⟩ k).cell? ⟨g + 1, 3, none⟩ = some (.slice none 0 0) ∧ (w.setCell ⟨g + 1, 2, none⟩ k).frozen? ⟨g + 1, 3, none⟩ = false ∧
 ((w.setCell ⟨g + 1, 2, none⟩ k).setCell ⟨g + 1, 3, none⟩ v).heap[g + 1]? = some (.cells #[.int .i64 A, .int .i64 B, k, v] 162 (0, 0)) ∧ ((w.setCell ⟨g + 1, 2, none⟩ k).setCell ⟨g + 1, 3, none⟩ v).heap[g]? = some (.cells #[.int .i64 0, .int .i64 0, .slice none 0 0, .slice none 0 0] 162 (0, 0)) := by
 have h1 := heap_setCell_same w (g + 1) 2 _ 162 k hg
 have h2 := heap_setCell_same (w.setCell ⟨g + 1, 2, none⟩ k) (g + 1) 3 _ 162 v h1
 refine ⟨by rw [cell_of_row _ _ _ _ _ _ hg]; rfl, frozen_of_row _ _ _ _ _ hg, by rw [cell_of_row _ _ _ _ _ _ h1]; rfl, frozen_of_row _ _ _ _ _ h1, h2, ?_⟩
 exact (heap_setCell_other _ ⟨g + 1, 3, none⟩ g v (by simp)).trans ((heap_setCell_other w ⟨g + 1, 2, none⟩ g k (by simp)).trans hr)
set_option maxHeartbeats 1600000 in
theorem laid_short (ad : Option Addr) (n cap : Nat) (hn : n < 8) (w : World) :
 Calls Tryz.prog 143 #[.slice ad n cap] w fun e w' => e = .returned (.tuple #[.agg #[.int .i64 0, .int .i64 0, .slice none 0 0, .slice none 0 0], .bool false]) ∧ Below w.heap.size w w' := by
 have i1 : (n : Int) < 8 := by omega
 have HB := hid (Below.alloc1 w (.cells #[.int .i64 0, .int .i64 0, .slice none 0 0, .slice none 0 0] 162))
 have HR := hid (heap_alloc_new w (.cells #[.int .i64 0, .int .i64 0, .slice none 0 0, .slice none 0 0] 162))
 go_enter Tryz.func143, Tryz.ntmps143
 go_wp2_with fail
 exact bodyPost_ret (results_cell_tmp Tryz.results143 _ _ w.heap.size 162 _ (0, 0) _ rfl HR.out Tryz.underlying162 rfl size_laid) rfl ⟨rfl, HB.out⟩
set_option maxHeartbeats 6400000 in
theorem laid_no8 {b off n : Nat} (cap : Nat) {zs : List Int} {w : World} (h : Reads w (some ⟨b, off, none⟩) n zs) (hn : n ≤ 1048576) (h8 : 8 ≤ n) (hc : n ≤ cap) (h88 : cap = 8) :
 Calls Tryz.prog 143 #[.slice (some ⟨b, off, none⟩) n cap] w fun e w' => ∃ A B a1 n1 c1 a2 n2 c2, e = .returned (.tuple #[.agg #[.int .i64 A, .int .i64 B, .slice a1 n1 c1, .slice a2 n2 c2], .bool false]) ∧ Below w.heap.size w w' := by
 have hl := h.len
 obtain ⟨r0, r1, bb⟩ := laid_rows w (numOf zs 0 4) (numOf zs 4 4)
 have H0 := hid (h.below (two w (.cells #[.int .i64 0, .int .i64 0, .slice none 0 0, .slice none 0 0] 162) (.cells #[.int .i64 0, .int .i64 0, .slice none 0 0, .slice none 0 0] 162)) (Nat.le_refl _))
 have g1 := impl_GetNum cap H0.out (by omega) 0 4 (by omega) (by omega) (by omega)
 have H1 := hid (h.below (two w (.cells #[.int .i64 0, .int .i64 0, .slice none 0 0, .slice none 0 0] 162) (.cells #[.int .i64 (numOf zs 0 4), .int .i64 0, .slice none 0 0, .slice none 0 0] 162)) (Nat.le_refl _))
 have g2 := impl_GetNum cap H1.out (by omega) 4 4 (by omega) (by omega) (by omega)
 have HH := hid (h.below bb (Nat.le_refl _))
 have HO := hid h
 subst h88
 obtain rfl : n = 8 := by omega
 have SR := hid r0
 have SA := hid r1
 have BB := hid bb
 generalize numOf zs 0 4 = A at *
 generalize numOf zs 4 4 = B at *
 generalize numOk zs 0 4 = k1 at *
 generalize numOk zs 4 4 = k2 at *
 clear r0 r1 bb H0 H1 h
 go_enter Tryz.func143, Tryz.ntmps143
 go_wp2_with fail
 refine g1.mono ?_
 rintro e w1 ⟨rfl, h1⟩
 subst w1
 go_wp2_with fail
 refine g2.mono ?_
 rintro e w1 ⟨rfl, h1⟩
 subst w1
 clear g1 g2
 go_wp2_with fail
 generalize (w.alloc (.cells #[.int .i64 0, .int .i64 0, .slice none 0 0, .slice none 0 0] 162)).alloc (.cells #[.int .i64 A, .int .i64 B, .slice none 0 0, .slice none 0 0] 162) = W at *
 refine (cut_no 0 (Reads.zero (some ⟨b, off, none⟩)) (by omega) (.inl rfl)).mono ?_
 rintro e w2 ⟨rfl, hw2⟩
 subst w2
 go_wp2_with fail
 refine (cut_no 0 (Reads.zero none) (by omega) (.inl rfl)).mono ?_
 rintro e w2 ⟨rfl, hw2⟩
 subst w2
 obtain ⟨e2, f2, e3, f3, RA, RR⟩ := laid_set SA.out SR.out (.slice none 0 0) (.slice none 0 0)
 have HA := hid RA
 have HR := hid RR
 have HBx := hid ((BB.out.setCell (p := ⟨w.heap.size + 1, 2, none⟩) (by simp) (.slice none 0 0)).setCell (p := ⟨w.heap.size + 1, 3, none⟩) (by simp) (.slice none 0 0))
 clear RA RR SA SR BB
 go_wp2_with (first
  | (refine wpList_load_row rfl 162 (.tmp 4) rfl (w.heap.size + 1) rfl 162 _ (0, 0) _ HA.out Tryz.underlying162 rfl size_laid ?_)
  | (refine wpList_store_row rfl 162 (.tmp 2) (.tmp 46) rfl w.heap.size #[.int .i64 A, .int .i64 B, .slice none 0 0, .slice none 0 0] rfl rfl 162 _ HR.out ?s1 ?s2 ?s3 ?_))
 case s1 => exact size_laid
 case s2 => rfl
 case s3 => simp [Value.oneCell']
 exact bodyPost_ret (results_cell_tmp Tryz.results143 _ _ w.heap.size 162 _ (0, 0) _ rfl (setRow_heap _ _ _ _ _ _ HR.out) Tryz.underlying162 rfl size_laid) rfl ⟨_, _, _, _, _, _, _, _, rfl, below_setRow HBx.out (Nat.le_refl _) _⟩
set_option maxHeartbeats 6400000 in
theorem laid_noK {b off n : Nat} (cap : Nat) {zs : List Int} {w : World} (h : Reads w (some ⟨b, off, none⟩) n zs) (hn : n ≤ 1048576) (h8 : 8 ≤ n) (hc : n ≤ cap) (h88 : ¬ cap = 8) (hno : n - 8 = 0 ∨ ((n - 8 : Nat) : Int) - 1 < zs.getD 8 0) :
 Calls Tryz.prog 143 #[.slice (some ⟨b, off, none⟩) n cap] w fun e w' => ∃ A B a1 n1 c1 a2 n2 c2, e = .returned (.tuple #[.agg #[.int .i64 A, .int .i64 B, .slice a1 n1 c1, .slice a2 n2 c2], .bool false]) ∧ Below w.heap.size w w' := by
 have hl := h.len
 obtain ⟨r0, r1, bb⟩ := laid_rows w (numOf zs 0 4) (numOf zs 4 4)
 have H0 := hid (h.below (two w (.cells #[.int .i64 0, .int .i64 0, .slice none 0 0, .slice none 0 0] 162) (.cells #[.int .i64 0, .int .i64 0, .slice none 0 0, .slice none 0 0] 162)) (Nat.le_refl _))
 have g1 := impl_GetNum cap H0.out (by omega) 0 4 (by omega) (by omega) (by omega)
 have H1 := hid (h.below (two w (.cells #[.int .i64 0, .int .i64 0, .slice none 0 0, .slice none 0 0] 162) (.cells #[.int .i64 (numOf zs 0 4), .int .i64 0, .slice none 0 0, .slice none 0 0] 162)) (Nat.le_refl _))
 have g2 := impl_GetNum cap H1.out (by omega) 4 4 (by omega) (by omega) (by omega)
 have HH := hid (h.below bb (Nat.le_refl _))
 have HO := hid h
 have i1 : ¬ (n : Int) < 8 := by omega
 have i2 : (8 : Int) ≤ (n : Int) := by omega
 have i3 : (n : Int) ≤ (cap : Int) := by omega
 have HR8 := hid (HH.out.sub 8 (n - 8) (by omega))
 have hno' : n - 8 = 0 ∨ ((n - 8 : Nat) : Int) - 1 < ((zs.drop 8).take (n - 8)).getD 0 0 := by
  rcases Nat.eq_zero_or_pos (n - 8) with h0 | h0
  · exact .inl h0
  · refine .inr ?_
    have e : ((zs.drop 8).take (n - 8)).getD 0 0 = zs.getD 8 0 := by simp [List.getD, List.getElem?_drop, h0]
    rw [e]; rcases hno with h | h; omega; exact h
 have HN := hid hno'
 clear hno hno'
 have SR := hid r0
 have SA := hid r1
 have BB := hid bb
 generalize numOf zs 0 4 = A at *
 generalize numOf zs 4 4 = B at *
 generalize numOk zs 0 4 = k1 at *
 generalize numOk zs 4 4 = k2 at *
 clear r0 r1 bb H0 H1 h
 go_enter Tryz.func143, Tryz.ntmps143
 go_wp2_with fail
 refine g1.mono ?_
 rintro e w1 ⟨rfl, h1⟩
 subst w1
 go_wp2_with fail
 refine g2.mono ?_
 rintro e w1 ⟨rfl, h1⟩
 subst w1
 clear g1 g2
 go_wp2_with fail
 generalize (w.alloc (.cells #[.int .i64 0, .int .i64 0, .slice none 0 0, .slice none 0 0] 162)).alloc (.cells #[.int .i64 A, .int .i64 B, .slice none 0 0, .slice none 0 0] 162) = W at *
 refine (cut_no (cap - 8) HR8.out (by omega) HN.out).mono ?_
 rintro e w2 ⟨rfl, hw2⟩
 subst w2
 go_wp2_with fail
 refine (cut_no 0 (Reads.zero none) (by omega) (.inl rfl)).mono ?_
 rintro e w2 ⟨rfl, hw2⟩
 subst w2
 obtain ⟨e2, f2, e3, f3, RA, RR⟩ := laid_set SA.out SR.out (.slice none 0 0) (.slice none 0 0)
 have HA := hid RA
 have HR := hid RR
 have HBx := hid ((BB.out.setCell (p := ⟨w.heap.size + 1, 2, none⟩) (by simp) (.slice none 0 0)).setCell (p := ⟨w.heap.size + 1, 3, none⟩) (by simp) (.slice none 0 0))
 clear RA RR SA SR BB
 go_wp2_with (first
  | (refine wpList_load_row rfl 162 (.tmp 4) rfl (w.heap.size + 1) rfl 162 _ (0, 0) _ HA.out Tryz.underlying162 rfl size_laid ?_)
  | (refine wpList_store_row rfl 162 (.tmp 2) (.tmp 46) rfl w.heap.size #[.int .i64 A, .int .i64 B, .slice none 0 0, .slice none 0 0] rfl rfl 162 _ HR.out ?s1 ?s2 ?s3 ?_))
 case s1 => exact size_laid
 case s2 => rfl
 case s3 => simp [Value.oneCell']
 exact bodyPost_ret (results_cell_tmp Tryz.results143 _ _ w.heap.size 162 _ (0, 0) _ rfl (setRow_heap _ _ _ _ _ _ HR.out) Tryz.underlying162 rfl size_laid) rfl ⟨_, _, _, _, _, _, _, _, rfl, below_setRow HBx.out (Nat.le_refl _) _⟩
set_option maxHeartbeats 6400000 in
theorem laid_noV {b off n : Nat} (cap : Nat) {zs : List Int} {w : World} (h : Reads w (some ⟨b, off, none⟩) n zs) (hn : n ≤ 1048576) (h8 : 8 ≤ n) (hc : n ≤ cap) (h88 : ¬ cap = 8) {s : Nat} (hs : zs.getD 8 0 = (s : Int)) (h9 : 9 + s ≤ n) (hno : n - (9 + s) = 0 ∨ ((n - (9 + s) : Nat) : Int) - 1 < zs.getD (9 + s) 0) :
 Calls Tryz.prog 143 #[.slice (some ⟨b, off, none⟩) n cap] w fun e w' => ∃ A B a1 n1 c1 a2 n2 c2, e = .returned (.tuple #[.agg #[.int .i64 A, .int .i64 B, .slice a1 n1 c1, .slice a2 n2 c2], .bool false]) ∧ Below w.heap.size w w' := by
 have hl := h.len
 obtain ⟨r0, r1, bb⟩ := laid_rows w (numOf zs 0 4) (numOf zs 4 4)
 have H0 := hid (h.below (two w (.cells #[.int .i64 0, .int .i64 0, .slice none 0 0, .slice none 0 0] 162) (.cells #[.int .i64 0, .int .i64 0, .slice none 0 0, .slice none 0 0] 162)) (Nat.le_refl _))
 have g1 := impl_GetNum cap H0.out (by omega) 0 4 (by omega) (by omega) (by omega)
 have H1 := hid (h.below (two w (.cells #[.int .i64 0, .int .i64 0, .slice none 0 0, .slice none 0 0] 162) (.cells #[.int .i64 (numOf zs 0 4), .int .i64 0, .slice none 0 0, .slice none 0 0] 162)) (Nat.le_refl _))
 have g2 := impl_GetNum cap H1.out (by omega) 4 4 (by omega) (by omega) (by omega)
 have HH := hid (h.below bb (Nat.le_refl _))
 have HO := hid h
 have i1 : ¬ (n : Int) < 8 := by omega
 have i2 : (8 : Int) ≤ (n : Int) := by omega
 have i3 : (n : Int) ≤ (cap : Int) := by omega
 have HR8 := hid (HH.out.sub 8 (n - 8) (by omega))
 have hq8 : ((zs.drop 8).take (n - 8)).getD 0 0 = (s : Int) := by
  rw [← hs]
  simp [List.getD, List.getElem?_drop, show 0 < n - 8 by omega]
 have e0 : (zs.drop 8).take (n - 8) = zs.drop 8 := List.take_of_length_le (by simp; omega)
 have eK : (((zs.drop 8).take (n - 8)).drop 1).take s = (zs.drop 9).take s := by
  rw [e0, List.drop_drop]
 have eV : ((zs.drop 8).take (n - 8)).drop (1 + s) = zs.drop (9 + s) := by
  rw [e0, List.drop_drop]
  congr 1
  omega
 clear e0
 have EK := hid eK
 have EV := hid eV
 have HQ8 := hid hq8
 clear eK eV hq8
 have hno' : n - (9 + s) = 0 ∨ ((n - (9 + s) : Nat) : Int) - 1 < (zs.drop (9 + s)).getD 0 0 := by
  rcases hno with h | h
  · exact .inl h
  · refine .inr ?_
    simpa [List.getD, List.getElem?_drop] using h
 have HN := hid hno'
 clear hno hno' hs
 have SR := hid r0
 have SA := hid r1
 have BB := hid bb
 generalize numOf zs 0 4 = A at *
 generalize numOf zs 4 4 = B at *
 generalize numOk zs 0 4 = k1 at *
 generalize numOk zs 4 4 = k2 at *
 clear r0 r1 bb H0 H1 h
 go_enter Tryz.func143, Tryz.ntmps143
 go_wp2_with fail
 refine g1.mono ?_
 rintro e w1 ⟨rfl, h1⟩
 subst w1
 go_wp2_with fail
 refine g2.mono ?_
 rintro e w1 ⟨rfl, h1⟩
 subst w1
 clear g1 g2
 go_wp2_with fail
 generalize (w.alloc (.cells #[.int .i64 0, .int .i64 0, .slice none 0 0, .slice none 0 0] 162)).alloc (.cells #[.int .i64 A, .int .i64 B, .slice none 0 0, .slice none 0 0] 162) = W at *
 refine (cut_yes (cap - 8) HR8.out (by omega) (by omega) HQ8.out (by omega)).mono ?_
 rintro e w2 ⟨aK, cK, aR, cR, rfl, RK, lK, RR, lR, st⟩
 rw [EK.out] at RK
 rw [EV.out] at RR
 replace SR := hid ((by rw [st.heap] : w2.heap[w.heap.size]? = W.heap[w.heap.size]?).trans SR.out)
 replace SA := hid ((by rw [st.heap] : w2.heap[w.heap.size + 1]? = W.heap[w.heap.size + 1]?).trans SA.out)
 replace BB := hid (BB.out.trans (st.below _))
 replace HH := hid (st.reads HH.out)
 have lN : n - 8 - (1 + s) = n - (9 + s) := by omega
 rw [lN] at RR lR
 rw [lN]
 have RK2 : Hid (∀ U, Reads U (some ⟨b, off, none⟩) n zs → Reads U aK s ((zs.drop 9).take s)) := hid fun U r => RK.out U (r.sub 8 (n - 8) (by omega))
 have RR1 : Hid (∀ U, Reads U (some ⟨b, off, none⟩) n zs → Reads U aR (n - (9 + s)) (zs.drop (9 + s))) := hid fun U r => RR.out U (r.sub 8 (n - 8) (by omega))
 have RR2 := hid (RR1.out _ HH.out)
 clear RK RR st lN
 go_wp2_with fail
 refine (cut_no cR RR2.out (by omega) HN.out).mono ?_
 rintro e w3 ⟨rfl, hw2⟩
 subst w3
 obtain ⟨e2, f2, e3, f3, RA, RR⟩ := laid_set SA.out SR.out (.slice aK s cK) (.slice none 0 0)
 have HA := hid RA
 have HR := hid RR
 have HBx := hid ((BB.out.setCell (p := ⟨w.heap.size + 1, 2, none⟩) (by simp) (.slice aK s cK)).setCell (p := ⟨w.heap.size + 1, 3, none⟩) (by simp) (.slice none 0 0))
 clear RA RR SA SR BB
 go_wp2_with (first
  | (refine wpList_load_row rfl 162 (.tmp 4) rfl (w.heap.size + 1) rfl 162 _ (0, 0) _ HA.out Tryz.underlying162 rfl size_laid ?_)
  | (refine wpList_store_row rfl 162 (.tmp 2) (.tmp 46) rfl w.heap.size #[.int .i64 A, .int .i64 B, .slice aK s cK, .slice none 0 0] rfl rfl 162 _ HR.out ?s1 ?s2 ?s3 ?_))
 case s1 => exact size_laid
 case s2 => rfl
 case s3 => simp [Value.oneCell']
 exact bodyPost_ret (results_cell_tmp Tryz.results143 _ _ w.heap.size 162 _ (0, 0) _ rfl (setRow_heap _ _ _ _ _ _ HR.out) Tryz.underlying162 rfl size_laid) rfl ⟨_, _, _, _, _, _, _, _, rfl, below_setRow HBx.out (Nat.le_refl _) _⟩
set_option maxHeartbeats 6400000 in
theorem laid_noE {b off n : Nat} (cap : Nat) {zs : List Int} {w : World} (h : Reads w (some ⟨b, off, none⟩) n zs) (hn : n ≤ 1048576) (h8 : 8 ≤ n) (hc : n ≤ cap) (h88 : ¬ cap = 8) {s t : Nat} (hs : zs.getD 8 0 = (s : Int)) (h9 : 9 + s ≤ n) (ht : zs.getD (9 + s) 0 = (t : Int)) (h10 : 10 + s + t < n) :
 Calls Tryz.prog 143 #[.slice (some ⟨b, off, none⟩) n cap] w fun e w' => ∃ A B a1 n1 c1 a2 n2 c2, e = .returned (.tuple #[.agg #[.int .i64 A, .int .i64 B, .slice a1 n1 c1, .slice a2 n2 c2], .bool false]) ∧ Below w.heap.size w w' := by
 have hl := h.len
 obtain ⟨r0, r1, bb⟩ := laid_rows w (numOf zs 0 4) (numOf zs 4 4)
 have H0 := hid (h.below (two w (.cells #[.int .i64 0, .int .i64 0, .slice none 0 0, .slice none 0 0] 162) (.cells #[.int .i64 0, .int .i64 0, .slice none 0 0, .slice none 0 0] 162)) (Nat.le_refl _))
 have g1 := impl_GetNum cap H0.out (by omega) 0 4 (by omega) (by omega) (by omega)
 have H1 := hid (h.below (two w (.cells #[.int .i64 0, .int .i64 0, .slice none 0 0, .slice none 0 0] 162) (.cells #[.int .i64 (numOf zs 0 4), .int .i64 0, .slice none 0 0, .slice none 0 0] 162)) (Nat.le_refl _))
 have g2 := impl_GetNum cap H1.out (by omega) 4 4 (by omega) (by omega) (by omega)
 have HH := hid (h.below bb (Nat.le_refl _))
 have HO := hid h
 have i1 : ¬ (n : Int) < 8 := by omega
 have i2 : (8 : Int) ≤ (n : Int) := by omega
 have i3 : (n : Int) ≤ (cap : Int) := by omega
 have HR8 := hid (HH.out.sub 8 (n - 8) (by omega))
 have hq8 : ((zs.drop 8).take (n - 8)).getD 0 0 = (s : Int) := by
  rw [← hs]
  simp [List.getD, List.getElem?_drop, show 0 < n - 8 by omega]
 have e0 : (zs.drop 8).take (n - 8) = zs.drop 8 := List.take_of_length_le (by simp; omega)
 have eK : (((zs.drop 8).take (n - 8)).drop 1).take s = (zs.drop 9).take s := by
  rw [e0, List.drop_drop]
 have eV : ((zs.drop 8).take (n - 8)).drop (1 + s) = zs.drop (9 + s) := by
  rw [e0, List.drop_drop]
  congr 1
  omega
 clear e0
 have EK := hid eK
 have EV := hid eV
 have HQ8 := hid hq8
 clear eK eV hq8
 have hv9 : (zs.drop (9 + s)).getD 0 0 = (t : Int) := by
  rw [← ht]
  simp [List.getD, List.getElem?_drop]
 have eW : ((zs.drop (9 + s)).drop 1).take t = (zs.drop (10 + s)).take t := by
  rw [List.drop_drop]
  congr 2
  omega
 have HV9 := hid hv9
 have EW := hid eW
 clear hv9 eW ht hs
 have iE : (((n - (9 + s) - (1 + t) : Nat) : Int) == 0) = false := beq_eq_false_iff_ne.2 (by omega)
 have SR := hid r0
 have SA := hid r1
 have BB := hid bb
 generalize numOf zs 0 4 = A at *
 generalize numOf zs 4 4 = B at *
 generalize numOk zs 0 4 = k1 at *
 generalize numOk zs 4 4 = k2 at *
 clear r0 r1 bb H0 H1 h
 go_enter Tryz.func143, Tryz.ntmps143
 go_wp2_with fail
 refine g1.mono ?_
 rintro e w1 ⟨rfl, h1⟩
 subst w1
 go_wp2_with fail
 refine g2.mono ?_
 rintro e w1 ⟨rfl, h1⟩
 subst w1
 clear g1 g2
 go_wp2_with fail
 generalize (w.alloc (.cells #[.int .i64 0, .int .i64 0, .slice none 0 0, .slice none 0 0] 162)).alloc (.cells #[.int .i64 A, .int .i64 B, .slice none 0 0, .slice none 0 0] 162) = W at *
 refine (cut_yes (cap - 8) HR8.out (by omega) (by omega) HQ8.out (by omega)).mono ?_
 rintro e w2 ⟨aK, cK, aR, cR, rfl, RK, lK, RR, lR, st⟩
 rw [EK.out] at RK
 rw [EV.out] at RR
 replace SR := hid ((by rw [st.heap] : w2.heap[w.heap.size]? = W.heap[w.heap.size]?).trans SR.out)
 replace SA := hid ((by rw [st.heap] : w2.heap[w.heap.size + 1]? = W.heap[w.heap.size + 1]?).trans SA.out)
 replace BB := hid (BB.out.trans (st.below _))
 replace HH := hid (st.reads HH.out)
 have lN : n - 8 - (1 + s) = n - (9 + s) := by omega
 rw [lN] at RR lR
 rw [lN]
 have RK2 : Hid (∀ U, Reads U (some ⟨b, off, none⟩) n zs → Reads U aK s ((zs.drop 9).take s)) := hid fun U r => RK.out U (r.sub 8 (n - 8) (by omega))
 have RR1 : Hid (∀ U, Reads U (some ⟨b, off, none⟩) n zs → Reads U aR (n - (9 + s)) (zs.drop (9 + s))) := hid fun U r => RR.out U (r.sub 8 (n - 8) (by omega))
 have RR2 := hid (RR1.out _ HH.out)
 clear RK RR st lN
 go_wp2_with fail
 refine (cut_yes cR RR2.out (by omega) lR HV9.out (by omega)).mono ?_
 rintro e w3 ⟨aV, cV, aE, cE, rfl, RV, lV, RE, lE, st⟩
 rw [EW.out] at RV
 have RV3 : Hid (∀ U, Reads U (some ⟨b, off, none⟩) n zs → Reads U aV t ((zs.drop (10 + s)).take t)) := hid fun U r => RV.out U (RR1.out U r)
 replace SR := hid ((by rw [st.heap] : w3.heap[w.heap.size]? = w2.heap[w.heap.size]?).trans SR.out)
 replace SA := hid ((by rw [st.heap] : w3.heap[w.heap.size + 1]? = w2.heap[w.heap.size + 1]?).trans SA.out)
 replace BB := hid (BB.out.trans (st.below _))
 clear RV RE st RR1 RR2
 obtain ⟨e2, f2, e3, f3, RA, RR⟩ := laid_set SA.out SR.out (.slice aK s cK) (.slice aV t cV)
 have HA := hid RA
 have HR := hid RR
 have HBx := hid ((BB.out.setCell (p := ⟨w.heap.size + 1, 2, none⟩) (by simp) (.slice aK s cK)).setCell (p := ⟨w.heap.size + 1, 3, none⟩) (by simp) (.slice aV t cV))
 clear RA RR SA SR BB
 go_wp2_with (first
  | (refine wpList_load_row rfl 162 (.tmp 4) rfl (w.heap.size + 1) rfl 162 _ (0, 0) _ HA.out Tryz.underlying162 rfl size_laid ?_)
  | (refine wpList_store_row rfl 162 (.tmp 2) (.tmp 46) rfl w.heap.size #[.int .i64 A, .int .i64 B, .slice aK s cK, .slice aV t cV] rfl rfl 162 _ HR.out ?s1 ?s2 ?s3 ?_))
 case s1 => exact size_laid
 case s2 => rfl
 case s3 => simp [Value.oneCell']
 exact bodyPost_ret (results_cell_tmp Tryz.results143 _ _ w.heap.size 162 _ (0, 0) _ rfl (setRow_heap _ _ _ _ _ _ HR.out) Tryz.underlying162 rfl size_laid) rfl ⟨_, _, _, _, _, _, _, _, rfl, below_setRow HBx.out (Nat.le_refl _) _⟩
set_option maxHeartbeats 6400000 in
theorem laid_yes {b off n : Nat} (cap : Nat) {zs : List Int} {w : World} (h : Reads w (some ⟨b, off, none⟩) n zs) (hn : n ≤ 1048576) (h8 : 8 ≤ n) (hc : n ≤ cap) (h88 : ¬ cap = 8) {s t : Nat} (hs : zs.getD 8 0 = (s : Int)) (h9 : 9 + s ≤ n) (ht : zs.getD (9 + s) 0 = (t : Int)) (h10 : 10 + s + t = n) :
 Calls Tryz.prog 143 #[.slice (some ⟨b, off, none⟩) n cap] w fun e w' => ∃ aK cK aV cV, e = .returned (.tuple #[.agg #[.int .i64 (numOf zs 0 4), .int .i64 (numOf zs 4 4), .slice aK s cK, .slice aV t cV], .bool true]) ∧ Hid (∀ U, Reads U (some ⟨b, off, none⟩) n zs → Reads U aK s ((zs.drop 9).take s)) ∧ s ≤ cK ∧ Hid (∀ U, Reads U (some ⟨b, off, none⟩) n zs → Reads U aV t (zs.drop (10 + s))) ∧ t ≤ cV ∧ Below w.heap.size w w' := by
 have hl := h.len
 obtain ⟨r0, r1, bb⟩ := laid_rows w (numOf zs 0 4) (numOf zs 4 4)
 have H0 := hid (h.below (two w (.cells #[.int .i64 0, .int .i64 0, .slice none 0 0, .slice none 0 0] 162) (.cells #[.int .i64 0, .int .i64 0, .slice none 0 0, .slice none 0 0] 162)) (Nat.le_refl _))
 have g1 := impl_GetNum cap H0.out (by omega) 0 4 (by omega) (by omega) (by omega)
 have H1 := hid (h.below (two w (.cells #[.int .i64 0, .int .i64 0, .slice none 0 0, .slice none 0 0] 162) (.cells #[.int .i64 (numOf zs 0 4), .int .i64 0, .slice none 0 0, .slice none 0 0] 162)) (Nat.le_refl _))
 have g2 := impl_GetNum cap H1.out (by omega) 4 4 (by omega) (by omega) (by omega)
 have HH := hid (h.below bb (Nat.le_refl _))
 have HO := hid h
 have i1 : ¬ (n : Int) < 8 := by omega
 have i2 : (8 : Int) ≤ (n : Int) := by omega
 have i3 : (n : Int) ≤ (cap : Int) := by omega
 have HR8 := hid (HH.out.sub 8 (n - 8) (by omega))
 have hq8 : ((zs.drop 8).take (n - 8)).getD 0 0 = (s : Int) := by
  rw [← hs]
  simp [List.getD, List.getElem?_drop, show 0 < n - 8 by omega]
 have e0 : (zs.drop 8).take (n - 8) = zs.drop 8 := List.take_of_length_le (by simp; omega)
 have eK : (((zs.drop 8).take (n - 8)).drop 1).take s = (zs.drop 9).take s := by
  rw [e0, List.drop_drop]
 have eV : ((zs.drop 8).take (n - 8)).drop (1 + s) = zs.drop (9 + s) := by
  rw [e0, List.drop_drop]
  congr 1
  omega
 clear e0
 have EK := hid eK
 have EV := hid eV
 have HQ8 := hid hq8
 clear eK eV hq8
 have hv9 : (zs.drop (9 + s)).getD 0 0 = (t : Int) := by
  rw [← ht]
  simp [List.getD, List.getElem?_drop]
 have eW : ((zs.drop (9 + s)).drop 1).take t = (zs.drop (10 + s)).take t := by
  rw [List.drop_drop]
  congr 2
  omega
 have HV9 := hid hv9
 have EW := hid eW
 clear hv9 eW ht hs
 have iE : n - (9 + s) - (1 + t) = 0 := by omega
 have eT : (zs.drop (10 + s)).take t = zs.drop (10 + s) := List.take_of_length_le (by simp; omega)
 have ET := hid eT
 have HIE := hid iE
 have hlt9 : 1 + t ≤ n - (9 + s) := by omega
 have H10 := hid h10
 clear eT iE h10
 have SR := hid r0
 have SA := hid r1
 have BB := hid bb
 generalize numOf zs 0 4 = A at *
 generalize numOf zs 4 4 = B at *
 generalize numOk zs 0 4 = k1 at *
 generalize numOk zs 4 4 = k2 at *
 clear r0 r1 bb H0 H1 h
 go_enter Tryz.func143, Tryz.ntmps143
 go_wp2_with fail
 refine g1.mono ?_
 rintro e w1 ⟨rfl, h1⟩
 subst w1
 go_wp2_with fail
 refine g2.mono ?_
 rintro e w1 ⟨rfl, h1⟩
 subst w1
 clear g1 g2
 go_wp2_with fail
 generalize (w.alloc (.cells #[.int .i64 0, .int .i64 0, .slice none 0 0, .slice none 0 0] 162)).alloc (.cells #[.int .i64 A, .int .i64 B, .slice none 0 0, .slice none 0 0] 162) = W at *
 refine (cut_yes (cap - 8) HR8.out (by omega) (by omega) HQ8.out (by omega)).mono ?_
 rintro e w2 ⟨aK, cK, aR, cR, rfl, RK, lK, RR, lR, st⟩
 rw [EK.out] at RK
 rw [EV.out] at RR
 replace SR := hid ((by rw [st.heap] : w2.heap[w.heap.size]? = W.heap[w.heap.size]?).trans SR.out)
 replace SA := hid ((by rw [st.heap] : w2.heap[w.heap.size + 1]? = W.heap[w.heap.size + 1]?).trans SA.out)
 replace BB := hid (BB.out.trans (st.below _))
 replace HH := hid (st.reads HH.out)
 have lN : n - 8 - (1 + s) = n - (9 + s) := by omega
 rw [lN] at RR lR
 rw [lN]
 have RK2 : Hid (∀ U, Reads U (some ⟨b, off, none⟩) n zs → Reads U aK s ((zs.drop 9).take s)) := hid fun U r => RK.out U (r.sub 8 (n - 8) (by omega))
 have RR1 : Hid (∀ U, Reads U (some ⟨b, off, none⟩) n zs → Reads U aR (n - (9 + s)) (zs.drop (9 + s))) := hid fun U r => RR.out U (r.sub 8 (n - 8) (by omega))
 have RR2 := hid (RR1.out _ HH.out)
 clear RK RR st lN
 go_wp2_with fail
 refine (cut_yes cR RR2.out (by omega) lR HV9.out hlt9).mono ?_
 rintro e w3 ⟨aV, cV, aE, cE, rfl, RV, lV, RE, lE, st⟩
 rw [EW.out] at RV
 rw [HIE.out]
 have RV3 : Hid (∀ U, Reads U (some ⟨b, off, none⟩) n zs → Reads U aV t ((zs.drop (10 + s)).take t)) := hid fun U r => RV.out U (RR1.out U r)
 replace SR := hid ((by rw [st.heap] : w3.heap[w.heap.size]? = w2.heap[w.heap.size]?).trans SR.out)
 replace SA := hid ((by rw [st.heap] : w3.heap[w.heap.size + 1]? = w2.heap[w.heap.size + 1]?).trans SA.out)
 replace BB := hid (BB.out.trans (st.below _))
 rw [ET.out] at RV3
 clear RV RE st RR1 RR2
 obtain ⟨e2, f2, e3, f3, RA, RR⟩ := laid_set SA.out SR.out (.slice aK s cK) (.slice aV t cV)
 have HA := hid RA
 have HR := hid RR
 have HBx := hid ((BB.out.setCell (p := ⟨w.heap.size + 1, 2, none⟩) (by simp) (.slice aK s cK)).setCell (p := ⟨w.heap.size + 1, 3, none⟩) (by simp) (.slice aV t cV))
 clear RA RR SA SR BB
 go_wp2_with (first
  | (refine wpList_load_row rfl 162 (.tmp 4) rfl (w.heap.size + 1) rfl 162 _ (0, 0) _ HA.out Tryz.underlying162 rfl size_laid ?_)
  | (refine wpList_store_row rfl 162 (.tmp 2) (.tmp 46) rfl w.heap.size #[.int .i64 A, .int .i64 B, .slice aK s cK, .slice aV t cV] rfl rfl 162 _ HR.out ?s1 ?s2 ?s3 ?_))
 case s1 => exact size_laid
 case s2 => rfl
 case s3 => simp [Value.oneCell']
 exact bodyPost_ret (results_cell_tmp Tryz.results143 _ _ w.heap.size 162 _ (0, 0) _ rfl (setRow_heap _ _ _ _ _ _ HR.out) Tryz.underlying162 rfl size_laid) rfl ⟨_, _, _, _, rfl, RK2, lK, RV3, lV, below_setRow HBx.out (Nat.le_refl _) _⟩
end Go.Proofs.YtkfhfjghfadofaaGreat
/- The contracts of the program's headOf, limited, inLimits. No conditions. -/




namespace Go.Proofs.YtkfhfjghfadofaaGreat
open Go.RowKit
set_option maxRecDepth 100000
set_option maxHeartbeats 1600000 in
theorem impl_headOf (A B K N : Int) (f : Nat) (ad : Option Addr) (n cap : Nat) (L M : Int) (h : Nat) (ad' : Option Addr) (m cap' : Nat) (w : World) :
 Calls Tryz.prog 101 #[.agg #[.int .i64 A, .int .i64 B, .int .i64 K, .int .i64 N, .float .f64 f, .slice ad n cap, .int .i64 L, .int .i64 M, .float .f64 h, .slice ad' m cap']] w fun e w' => e = .returned (.agg #[.int .i64 A, .int .i64 B]) ∧ Below w.heap.size w w' := by
 have HB := hid (two w (.cells #[.int .i64 A, .int .i64 B, .int .i64 K, .int .i64 N, .float .f64 f, .slice ad n cap, .int .i64 L, .int .i64 M, .float .f64 h, .slice ad' m cap'] 31) (.cells #[.int .i64 A, .int .i64 B] 133))
 have HR := hid (two_rows w (.cells #[.int .i64 A, .int .i64 B, .int .i64 K, .int .i64 N, .float .f64 f, .slice ad n cap, .int .i64 L, .int .i64 M, .float .f64 h, .slice ad' m cap'] 31) (.cells #[.int .i64 A, .int .i64 B] 133))
 go_enter Tryz.func101, Tryz.ntmps101
 go_wp2_with fail
 exact bodyPost_ret (results_cell_row Tryz.results101 _ _ (w.heap.size + 1) 133 _ (0, 0) _ rfl HR.out.2.1 Tryz.underlying133 rfl size_head) rfl ⟨rfl, HB.out⟩
set_option maxHeartbeats 1600000 in
theorem impl_limited (A B : Int) (w : World) :
 Calls Tryz.prog 142 #[.agg #[.int .i64 A, .int .i64 B]] w fun e w' => ∃ C D : Int, e = .returned (.agg #[.int .i64 C, .int .i64 D]) ∧ Hid (C = A ↔ 1 ≤ A ∧ A ≤ 400) ∧ Hid (D = B ↔ 0 ≤ B ∧ B ≤ 400) ∧ Below w.heap.size w w' := by
 go_enter Tryz.func142, Tryz.ntmps142
 go_wp2_with fail
 all_goals
  exact bodyPost_ret (results_cell_row Tryz.results142 _ _ (w.heap.size + 1) 133 _ (0, 0) _ rfl (two_rows w _ _).2.1 Tryz.underlying133 rfl size_head) rfl ⟨_, _, rfl, hid (by omega), hid (by omega), two w _ _⟩
set_option maxHeartbeats 1600000 in
theorem impl_inLimits (A B : Int) (w : World) :
 Calls Tryz.prog 102 #[.agg #[.int .i64 A, .int .i64 B]] w fun e w' => e = .returned (.bool (decide (1 ≤ A ∧ A ≤ 400 ∧ 0 ≤ B ∧ B ≤ 400))) ∧ Below w.heap.size w w' := by
 have HB := hid (Below.alloc1 w (.cells #[.int .i64 A, .int .i64 B] 133))
 have R := heap_alloc_new w (.cells #[.int .i64 A, .int .i64 B] 133)
 have d0 : (w.alloc (.cells #[.int .i64 A, .int .i64 B] 133)).cell? ⟨w.heap.size, 0, none⟩ = some (.int .i64 A) := by rw [cell_of_row _ _ _ _ _ _ R]; rfl
 have d1 : (w.alloc (.cells #[.int .i64 A, .int .i64 B] 133)).cell? ⟨w.heap.size, 1, none⟩ = some (.int .i64 B) := by rw [cell_of_row _ _ _ _ _ _ R]; rfl
 clear R
 by_cases h1 : 1 ≤ A ∧ A ≤ 400
 · by_cases h2 : 0 ≤ B ∧ B ≤ 400
   · rw [decide_eq_true (by omega)]
     go_enter Tryz.func102, Tryz.ntmps102
     go_wp2_with fail
     go_region_with (go_at_call 142; refine (impl_limited A B _).mono ?_; rintro e w6 ⟨C, D, rfl, H1, H2, b6⟩; obtain rfl := H1.out.2 h1; obtain rfl := H2.out.2 h2; have d60 := (b6.cell (p := ⟨w.heap.size, 0, none⟩) (by simp)).trans d0; have d61 := (b6.cell (p := ⟨w.heap.size, 1, none⟩) (by simp)).trans d1; have B6 := hid (HB.out.trans (((Still.drew _).below _).trans (b6.mono HB.out.size))); clear b6)
     all_goals
      go_wp2_with fail
      go_ret
      exact ⟨rfl, B6.out⟩
   · rw [decide_eq_false (by omega)]
     go_enter Tryz.func102, Tryz.ntmps102
     go_wp2_with fail
     go_region_with (go_at_call 142; refine (impl_limited A B _).mono ?_; rintro e w6 ⟨C, D, rfl, H1, H2, b6⟩; obtain rfl := H1.out.2 h1; have q0 : ¬ B = D := fun e => h2 (H2.out.1 e.symm); have q1 : (B == D) = false := beq_eq_false_iff_ne.2 q0; have d60 := (b6.cell (p := ⟨w.heap.size, 0, none⟩) (by simp)).trans d0; have d61 := (b6.cell (p := ⟨w.heap.size, 1, none⟩) (by simp)).trans d1; have B6 := hid (HB.out.trans (((Still.drew _).below _).trans (b6.mono HB.out.size))); clear b6)
     all_goals
      go_wp2_with fail
      go_ret
      exact ⟨rfl, B6.out⟩
 · rw [decide_eq_false (by omega)]
   go_enter Tryz.func102, Tryz.ntmps102
   go_wp2_with fail
   go_region_with (go_at_call 142; refine (impl_limited A B _).mono ?_; rintro e w6 ⟨C, D, rfl, H1, H2, b6⟩; have q0 : ¬ A = C := fun e => h1 (H1.out.1 e.symm); have q1 : (A == C) = false := beq_eq_false_iff_ne.2 q0; have d60 := (b6.cell (p := ⟨w.heap.size, 0, none⟩) (by simp)).trans d0; have d61 := (b6.cell (p := ⟨w.heap.size, 1, none⟩) (by simp)).trans d1; have B6 := hid (HB.out.trans (((Still.drew _).below _).trans (b6.mono HB.out.size))); clear b6)
   all_goals
    go_wp2_with fail
    go_ret
    exact ⟨rfl, B6.out⟩
set_option maxHeartbeats 3200000 in
theorem impl_TupleOk (A B K N : Int) (f : Nat) (ad : Option Addr) (n cap : Nat) (L M : Int) (h : Nat) (ad' : Option Addr) (m cap' : Nat) (hf : f < 18446744073709551616) (hh : h < 18446744073709551616) (hn : n ≤ 2097152) (hm : m ≤ 2097152) (w : World) :
 Calls Tryz.prog 50 #[.agg #[.int .i64 A, .int .i64 B, .int .i64 K, .int .i64 N, .float .f64 f, .slice ad n cap, .int .i64 L, .int .i64 M, .float .f64 h, .slice ad' m cap']] w fun e w' => e = .returned (.bool (okT A B K N f n L M h m)) ∧ Below w.heap.size w w' := by
 have hB := hid (BoxT.new w A B K N f ad n cap L M h ad' m cap' 31)
 have HB := hid (Below.alloc1 w (.cells #[.int .i64 A, .int .i64 B, .int .i64 K, .int .i64 N, .float .f64 f, .slice ad n cap, .int .i64 L, .int .i64 M, .float .f64 h, .slice ad' m cap'] 31))
 have i1 := impl_headOf A B K N f ad n cap L M h ad' m cap'
 have i2 := impl_inLimits A B
 have i3 := impl_KeyOk K N f ad n cap hf hn
 have i4 := impl_ItemOk L M h ad' m cap' hh hm
 unfold okT
 generalize decide (1 ≤ A ∧ A ≤ 400 ∧ 0 ≤ B ∧ B ≤ 400) = x2 at *
 generalize okK K N f n = x3 at *
 generalize okI L M h m = x4 at *
 generalize hx5 : decide (L ≠ 0) = x5
 go_enter Tryz.func50, Tryz.ntmps50
 go_wp2_with fail
 refine (i1 _).mono ?_
 rintro e w1 ⟨rfl, b1⟩
 replace hB := hid (hB.out.below b1 (Nat.le_refl _))
 replace HB := hid (HB.out.trans (b1.mono HB.out.size))
 clear b1 i1
 go_wp2_with fail
 refine (i2 _).mono ?_
 rintro e w2 ⟨rfl, b1⟩
 obtain ⟨c0, c1, c2, c3, c4, c5, c6, c7, c8, c9⟩ := hB.out.below b1 (Nat.le_refl _)
 replace hB := hid (hB.out.below b1 (Nat.le_refl _))
 replace HB := hid (HB.out.trans (b1.mono HB.out.size))
 clear b1 i2
 cases x2
 · go_wp2_with fail
   go_ret
   exact ⟨rfl, HB.out⟩
 go_wp2_with fail
 refine (i3 _).mono ?_
 rintro e w3 ⟨rfl, b1⟩
 clear c0 c1 c2 c3 c4 c5 c6 c7 c8 c9 i3
 obtain ⟨c0, c1, c2, c3, c4, c5, c6, c7, c8, c9⟩ := hB.out.below b1 (Nat.le_refl _)
 replace hB := hid (hB.out.below b1 (Nat.le_refl _))
 replace HB := hid (HB.out.trans (b1.mono HB.out.size))
 clear b1
 cases x3
 · go_wp2_with fail
   go_ret
   exact ⟨rfl, HB.out⟩
 go_wp2_with fail
 refine (i4 _).mono ?_
 rintro e w4 ⟨rfl, b1⟩
 clear c0 c1 c2 c3 c4 c5 c6 c7 c8 c9 i4
 obtain ⟨c0, c1, c2, c3, c4, c5, c6, c7, c8, c9⟩ := hB.out.below b1 (Nat.le_refl _)
 replace HB := hid (HB.out.trans (b1.mono HB.out.size))
 clear b1
 cases x4
 · go_wp2_with fail
   go_ret
   exact ⟨rfl, HB.out⟩
 have q : (L != 0) = x5 := by rw [← hx5]; by_cases h0 : L = 0 <;> simp [h0]
 clear hx5
 go_wp2_with fail
 go_ret
 exact ⟨rfl, HB.out⟩
end Go.Proofs.YtkfhfjghfadofaaGreat
/- Where rows of a call's own stand. No conditions. -/

namespace Go.Proofs.YtkfhfjghfadofaaGreat
open Go.RowKit
def In (ad : Option Addr) (lo hi : Nat) : Prop := ad = none ∨ ∃ g, ad = some ⟨g, 0, none⟩ ∧ lo ≤ g ∧ g < hi
theorem In.own {ad ad' : Option Addr} {a b c d n cap n' cap' : Nat} (h : In ad a b) (k : In ad' c d) (ho : b ≤ c ∨ d ≤ a) : (Value.slice ad n cap).ownBlock = none ∨ (Value.slice ad n cap).ownBlock ≠ (Value.slice ad' n' cap').ownBlock := by
 rcases h with rfl | ⟨g, rfl, h3, h4⟩
 · exact .inl rfl
 · rcases k with rfl | ⟨g', rfl, h1, h2⟩
   · exact .inr (by simp [Value.ownBlock])
   · exact .inr (by simp [Value.ownBlock]; omega)
end Go.Proofs.YtkfhfjghfadofaaGreat
