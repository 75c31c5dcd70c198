/- Slices of bools: what they read as; the contracts of the laws' toBoolS, eqBoolS, szBoolS. Conditions: at most 2^21 of them. -/
import Derived.Test.YtnbpblephmjfnaaMga
import Derived.Test.YtnbpblephmjfnaaNi
namespace Go.Proofs.Ytnbpblephmjfnaa
open Go.RowKit
set_option maxRecDepth 100000
def bol (bs : List Bool) : List Value := bs.map Value.bool
structure ReadsB (w : World) (ad : Option Addr) (n : Nat) (zs : List Bool) : Prop where
 len : zs.length = n
 cells : n = 0 ∨ ∃ b off, ad = some ⟨b, off, none⟩ ∧ ∀ i, i < n → w.cell? ⟨b, off + i, none⟩ = some (.bool (zs.getD i false))
theorem ReadsB.below {w w' : World} {ad : Option Addr} {n : Nat} {zs : List Bool} (h : ReadsB w ad n zs) {B : Nat} (hb : Below B w w') (hB : w.heap.size ≤ B) : ReadsB w' ad n zs := by
 refine ⟨h.len, ?_⟩
 rcases h.cells with h0 | ⟨b, off, rfl, hc⟩
 · exact .inl h0
 · refine .inr ⟨b, off, rfl, fun i hi => ?_⟩
   have hc' := hc i hi
   have := World.block_lt_of_cell? w _ hc'
   rw [hb.cell (p := ⟨b, off + i, none⟩) (by simp at this ⊢; omega)]
   exact hc'
theorem ReadsB.own {w : World} {base g n c : Nat} {zs : List Bool} (o : w.ownsRow base 4 1 (.slice (some ⟨g, 0, none⟩) n c) n (bol zs)) : ReadsB w (some ⟨g, 0, none⟩) n zs := by
 have hl : zs.length = n := by have := o.1; simpa [bol] using this
 refine ⟨hl, .inr ⟨g, 0, rfl, fun i hi => ?_⟩⟩
 rw [Nat.zero_add, o.cellAt i (by omega)]
 simp [bol, List.getD, hl, hi]
theorem Try.infoBo : (Try.prog.info? 4).map (fun i => (i.zero, i.size, i.bytes)) = some (some (.bool false), 1, 1) := by kernel_rfl
theorem set_take_stepB (zs : List Bool) (k : Nat) (hk : k < zs.length) (m : Nat) (hm : m = zs.length) :
 (bol (zs.take k) ++ List.replicate (m - k) (Value.bool false)).set k (.bool (zs.getD k false)) = bol (zs.take (k + 1)) ++ List.replicate (m - (k + 1)) (Value.bool false) := by
 subst hm
 apply List.ext_getElem?
 intro j
 simp only [bol, List.getElem?_set, List.getElem?_append, List.getElem?_map, List.getElem?_replicate, List.length_map, List.length_take, List.length_append, List.length_replicate, List.getElem?_take]
 by_cases h1 : k = j
 · subst h1
   simp [hk, show min (k + 1) zs.length = k + 1 by omega, show min k zs.length = k by omega, show zs.length - k ≠ 0 by omega]
 · by_cases h2 : j < k
   · simp [h1, show j < min k zs.length by omega, show j < min (k+1) zs.length by omega, show j < k + 1 by omega, h2]
   · by_cases h3 : j < zs.length
     · simp [h1, show ¬ j < min k zs.length by omega, show ¬ j < min (k+1) zs.length by omega, show j - min k zs.length < zs.length - k by omega, show j - min (k+1) zs.length < zs.length - (k+1) by omega]
     · simp [h1, show ¬ j < min k zs.length by omega, show ¬ j < min (k+1) zs.length by omega, show ¬ j - min k zs.length < zs.length - k by omega, show ¬ j - min (k+1) zs.length < zs.length - (k+1) by omega]
set_option maxHeartbeats 800000 in
theorem toBoolS_pos (b off n cap : Nat) (zs : List Bool) (w : World) (hz : zs.length = n) (hn : n ≤ 2097152) (hb : b < w.heap.size)
 (hc : ∀ i, i < n → w.cell? ⟨b, off + i, none⟩ = some (.bool (zs.getD i false))) :
 Calls Try.prog 16 #[.slice (some ⟨b, off, none⟩) n cap] w fun e w' =>
  e = .returned (.slice (some ⟨w.heap.size, 0, none⟩) n n) ∧ w'.ownsRow w.heap.size 4 1 (.slice (some ⟨w.heap.size, 0, none⟩) n n) n (bol zs) ∧ Below w.heap.size w w' := by
 obtain ⟨i0, hi, hz0, hz1, hz2⟩ := info_parts Try.infoBo
 go_enter Try.func16, Try.ntmps16
 go_wp2_with (at_make; refine wpList_make_full _ rfl _ _ 26 rfl w.heap.size 4 i0 (.bool false) 1 Try.underlying26 hi hz0 hz1 _ _ _ _ n rfl rfl (by omega) (by omega) ?b2 ?b3 (Nat.le_refl _) ?_)
 case b2 => rw [hz2]; omega
 case b3 => unfold maxLen; omega
 intro w0 hown0 hgrow0
 go_wp2
 go_loopw [4] (fun i wr => ∃ k : Nat, k ≤ n ∧ i = .int .i64 k ∧ wr.ownsRow w.heap.size 4 1 (.slice (some ⟨w.heap.size, 0, none⟩) n n) n (bol (zs.take k) ++ List.replicate (n - k) (Value.bool false)) ∧ Below w.heap.size w wr)
  (fun i _ => n - (intOf i).toNat)
 case atStart =>
  refine ⟨0, Nat.zero_le _, rfl, ?_, (Below.refl _ _).grown hgrow0 (Nat.le_refl _) (fun k h => by cases h)⟩
  rw [toList_madeCells_one] at hown0
  simpa [bol] using hown0
 case round =>
  obtain ⟨k, hk, rfl, hown, hnx⟩ := hrel
  by_cases hlt : k < n
  · have hcx : wr.cell? ⟨b, off + k, none⟩ = some (.bool (zs.getD k false)) := (hnx.cell (by exact hb)).trans (hc k hlt)
    have hcy : wr.cell? ⟨w.heap.size, k, none⟩ = some (.bool false) := by
     rw [hown.cellAt k (by omega), List.getElem?_append_right (by simp [bol]; omega)]
     simp [bol, hz, Nat.min_eq_left hk, show 0 < n - k by omega]
    have hfr : wr.frozen? ⟨w.heap.size, k, none⟩ = false := hown.frozenAt k
    have R := hown.stored k (.bool (zs.getD k false))
    rw [set_take_stepB zs k (by omega) n hz.symm] at R
    have R1 := hid R
    clear R hown
    generalize zs.getD k false = c at hcx R1
    go_wp2
    go_roundw
    case rel => exact ⟨k + 1, by omega, by go_num, by simpa using R1.out.1, hnx.setCell (Nat.le_refl _) _⟩
    case measure => simp [intOf]; omega
  · go_wp2
    go_ret
    have hkn : k = n := by omega
    subst hkn
    refine ⟨rfl, ?_, hnx⟩
    rw [List.take_of_length_le (by omega)] at hown
    simpa using hown
set_option maxHeartbeats 800000 in
theorem toBoolS_zero (ad : Option Addr) (cap : Nat) (w : World) :
 Calls Try.prog 16 #[.slice ad 0 cap] w fun e w' =>
  e = .returned (.slice (some ⟨w.heap.size, 0, none⟩) 0 0) ∧ w'.ownsRow w.heap.size 4 1 (.slice (some ⟨w.heap.size, 0, none⟩) 0 0) 0 (bol []) ∧ Below w.heap.size w w' := by
 obtain ⟨i0, hi, hz0, hz1, hz2⟩ := info_parts Try.infoBo
 go_enter Try.func16, Try.ntmps16
 go_wp2_with (at_make; refine wpList_make_full _ rfl _ _ 26 rfl w.heap.size 4 i0 (.bool false) 1 Try.underlying26 hi hz0 hz1 _ _ _ _ 0 rfl rfl (by omega) (by omega) ?b2 ?b3 (Nat.le_refl _) ?_)
 case b2 => rw [hz2]; omega
 case b3 => unfold maxLen; omega
 intro w0 hown0 hgrow0
 have H0 := hid hown0
 clear hown0
 go_wp2
 go_loopw [4] (fun i wr => i = .int .i64 (0 : Nat) ∧ wr = w0) (fun i _ => 0)
 case atStart => exact ⟨rfl, rfl⟩
 case round =>
  obtain ⟨rfl, rfl⟩ := hrel
  go_wp2
  go_ret
  refine ⟨rfl, ?_, (Below.refl _ _).grown hgrow0 (Nat.le_refl _) (fun k h => by cases h)⟩
  have h := H0.out
  simpa [bol, madeCells] using h
theorem toBoolS_any {ad : Option Addr} {n : Nat} (cap : Nat) {zs : List Bool} {w : World} (h : ReadsB w ad n zs) (hn : n ≤ 2097152) :
 Calls Try.prog 16 #[.slice ad n cap] w fun e w' =>
  e = .returned (.slice (some ⟨w.heap.size, 0, none⟩) n n) ∧ w'.ownsRow w.heap.size 4 1 (.slice (some ⟨w.heap.size, 0, none⟩) n n) n (bol zs) ∧ Below w.heap.size w w' := by
 obtain ⟨hl, hc⟩ := h
 by_cases h0 : n = 0
 · subst h0
   obtain rfl : zs = [] := List.eq_nil_of_length_eq_zero hl
   exact toBoolS_zero ad cap w
 · rcases hc with h | ⟨b, off, rfl, hc⟩
   · exact absurd h h0
   · exact toBoolS_pos b off n cap zs w hl hn (by have := World.block_lt_of_cell? w _ (hc 0 (by omega)); exact this) hc
set_option maxHeartbeats 800000 in
theorem eqBoolS_pos (b off cap b' off' cap' n : Nat) (zs : List Bool) (w : World) (hn : n ≤ 2097152)
 (hc : ∀ i, i < n → w.cell? ⟨b, off + i, none⟩ = some (.bool (zs.getD i false))) (hc' : ∀ i, i < n → w.cell? ⟨b', off' + i, none⟩ = some (.bool (zs.getD i false))) :
 Calls Try.prog 20 #[.slice (some ⟨b, off, none⟩) n cap, .slice (some ⟨b', off', none⟩) n cap'] w fun e w' => e = .returned (.bool true) ∧ Still w w' := by
 go_enter Try.func20, Try.ntmps20
 go_wp2
 go_loopw [5] (fun i wr => ∃ k m : Nat, k ≤ n ∧ i = .int .i64 k ∧ wr = w.drewN m) (fun i _ => n - (intOf i).toNat)
 case atStart => exact ⟨0, 0, Nat.zero_le _, rfl, rfl⟩
 case round =>
  obtain ⟨k, m, hk, rfl, rfl⟩ := hrel
  by_cases hlt : k < n
  · have h1 := hc k hlt
    have h2 := hc' k hlt
    generalize zs.getD k false = c at h1 h2
    have hlt' : (k : Int) < (n : Int) := by omega
    go_wp2
    go_quiet (fail)
    go_wp2
    go_roundw
    case rel => exact ⟨k + 1, _, by omega, by go_num, rfl⟩
    case measure => simp [intOf]; omega
  · go_wp2
    go_ret
    exact ⟨rfl, Still.drewN _ _⟩
set_option maxHeartbeats 800000 in
theorem eqBoolS_zero (ad ad' : Option Addr) (cap cap' : Nat) (w : World) :
 Calls Try.prog 20 #[.slice ad 0 cap, .slice ad' 0 cap'] w fun e w' => e = .returned (.bool true) ∧ Still w w' := by
 go_enter Try.func20, Try.ntmps20
 go_wp2
 go_loopw [5] (fun i wr => i = .int .i64 (0 : Nat) ∧ wr = w) (fun _ _ => 0)
 case atStart => exact ⟨rfl, rfl⟩
 case round =>
  obtain ⟨rfl, rfl⟩ := hrel
  go_wp2
  go_ret
  exact ⟨rfl, Still.refl _⟩
theorem eqBoolS_any {ad ad' : Option Addr} {n : Nat} (cap cap' : Nat) {zs : List Bool} {w : World} (h : ReadsB w ad n zs) (h' : ReadsB w ad' n zs) (hn : n ≤ 2097152) :
 Calls Try.prog 20 #[.slice ad n cap, .slice ad' n cap'] w fun e w' => e = .returned (.bool true) ∧ Still w w' := by
 obtain ⟨hl, hc⟩ := h
 obtain ⟨hl', hc'⟩ := h'
 by_cases h0 : n = 0
 · subst h0; exact eqBoolS_zero ad ad' cap cap' w
 · rcases hc with h | ⟨b, off, rfl, hc⟩
   · exact absurd h h0
   rcases hc' with h | ⟨b', off', rfl, hc'⟩
   · exact absurd h h0
   exact eqBoolS_pos b off cap b' off' cap' n zs w hn hc hc'
theorem szBoolS (ad : Option Addr) (n cap : Nat) (left : Int) (hn : n ≤ 9223372036854775807) (h0 : 0 ≤ left) (h1 : left ≤ 1048576) (w : World) :
 Calls Try.prog 10 #[.slice ad n cap, .int .i64 left] w fun e w' => e = .returned (.int .i64 (if left < n then -1 else left - n)) ∧ w' = w := by
 have a1 : (0 : Int) ≤ (n : Int) := by omega
 have a2 : (n : Int) ≤ 9223372036854775807 := by omega
 by_cases h : left < n
 · rw [if_pos h]
   have q : left - (n : Int) < 0 := by omega
   go_enter Try.func10, Try.ntmps10
   go_wp2
   go_ret
   exact ⟨rfl, rfl⟩
 · rw [if_neg h]
   have q : ¬ left - (n : Int) < 0 := by omega
   go_enter Try.func10, Try.ntmps10
   go_wp2
   go_ret
   exact ⟨rfl, rfl⟩
end Go.Proofs.Ytnbpblephmjfnaa
