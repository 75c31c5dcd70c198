/- Slices of whole numbers: what they read as; the contracts of the laws' toIntS, eqIntS, markIntS, heldIntS. Conditions: at most 2^21 of them. -/
import Derived.Test.YtphmlndkjgldkaaMga
namespace Go.Proofs.Ytphmlndkjgldkaa
open Go.RowKit
set_option maxRecDepth 100000
def ins (zs : List Int) : List Value := zs.map (Value.int .i64)
theorem ins_length (zs : List Int) : (ins zs).length = zs.length := by simp [ins]
structure ReadsI (w : World) (ad : Option Addr) (n : Nat) (zs : List Int) : Prop where
 len : zs.length = n
 cells : n = 0 ∨ ∃ b off, ad = some ⟨b, off, none⟩ ∧ ∀ i, i < n → w.cell? ⟨b, off + i, none⟩ = some (.int .i64 (zs.getD i 0))
 bd : ∀ i, -9223372036854775808 ≤ zs.getD i 0 ∧ zs.getD i 0 ≤ 9223372036854775807
theorem ReadsI.below {w w' : World} {ad : Option Addr} {n : Nat} {zs : List Int} (h : ReadsI w ad n zs) {B : Nat} (hb : Below B w w') (hB : w.heap.size ≤ B) : ReadsI w' ad n zs := by
 refine ⟨h.len, ?_, h.bd⟩
 rcases h.cells with h0 | ⟨b, off, rfl, hc⟩
 · exact .inl h0
 · refine .inr ⟨b, off, rfl, fun i hi => ?_⟩
   have hc' := hc i hi
   have := World.block_lt_of_cell? w _ hc'
   rw [hb.cell (p := ⟨b, off + i, none⟩) (by simp at this ⊢; omega)]
   exact hc'
theorem ReadsI.own {w : World} {base : Nat} {v : Value} {n : Nat} {zs : List Int} (h : w.ownsRow base 3 1 v n (ins zs)) (hbd : ∀ i, -9223372036854775808 ≤ zs.getD i 0 ∧ zs.getD i 0 ≤ 9223372036854775807) :
 ∃ ad cap, v = .slice ad n cap ∧ ReadsI w ad n zs ∧ (ad = none ∨ ∃ g, ad = some ⟨g, 0, none⟩ ∧ base ≤ g ∧ g < w.heap.size) := by
 have hl : zs.length = n := by have := h.1; simpa [ins] using this
 rcases h.2 with ⟨rfl, rfl⟩ | ⟨g, cap, cur, rfl, hb, hg, hnc, hcm, hcs, htake⟩
 · exact ⟨none, 0, rfl, ⟨hl, .inl rfl, hbd⟩, .inl rfl⟩
 · refine ⟨_, cap, rfl, ⟨hl, .inr ⟨g, 0, rfl, fun i hi => ?_⟩, hbd⟩, .inr ⟨g, rfl, hb, (Array.getElem?_eq_some_iff.1 hg).1⟩⟩
   rw [Nat.zero_add, h.cellAt i (by omega)]
   simp [ins, hl, hi]
def marksI (k : Int) (n : Nat) : List Int := (List.range n).map fun i => (k + (i : Nat)) 
theorem marksI_length (k : Int) (n : Nat) : (marksI k n).length = n := by simp [marksI]
theorem marksI_succ (k : Int) (n : Nat) : marksI k (n + 1) = marksI k n ++ [(k + (n : Nat)) ] := by simp [marksI, List.range_succ]
theorem marksI_at (k : Int) (n i : Nat) (h : i < n) : (marksI k n).getD i 0 = (k + (i : Nat))  := by simp [marksI, h]
theorem ins_append (a b : List Int) : ins (a ++ b) = ins a ++ ins b := by simp [ins]
theorem readsI_in {w : World} {a : Option Addr} {len cap : Nat} {zs : List Int}
 (h : (a = none ∧ len = 0 ∧ cap = 0 ∧ zs = []) ∨ ∃ x, a = some x ∧ len ≤ cap ∧ cap ≤ maxLen ∧ zs.length = cap ∧ (∀ i, i < zs.length → w.cell? (x.add i) = some (.int .i64 (zs.getD i 0))) ∧ ∀ n ∈ zs, (Lit.int .i64 n).wf = true) :
 ReadsI w a len (zs.take len) := by
 rcases h with ⟨rfl, rfl, rfl, rfl⟩ | ⟨x, rfl, hlc, hm, hz, hc, hwf⟩
 · exact ⟨rfl, .inl rfl, by simp⟩
 · refine ⟨by simp; omega, ?_, ?_⟩
   · by_cases h0 : len = 0
     · exact .inl h0
     · obtain ⟨b, off, rfl, hc'⟩ := ints_at hc (by omega)
       refine .inr ⟨b, off, rfl, fun i hi => ?_⟩
       rw [hc' i (by omega)]
       simp [hi]
   · intro i
     by_cases hi : i < (zs.take len).length
     · rw [List.getD_eq_getElem?_getD, List.getElem?_eq_getElem hi]
       exact bounds_i64 (hwf _ (List.mem_of_mem_take (List.getElem_mem hi)))
     · rw [List.getD_eq_getElem?_getD, List.getElem?_eq_none (by omega)]; simp
theorem ins_one (zs : List Int) : ∀ u ∈ ins zs, u.oneCell' = true := by
 intro u hu
 simp only [ins, List.mem_map] at hu
 obtain ⟨x, _, rfl⟩ := hu
 rfl
theorem ReadsI.pos {w : World} {ad : Option Addr} {n : Nat} {zs : List Int} (h : ReadsI w ad n zs) (hn : 0 < n) : ∃ b off, ad = some ⟨b, off, none⟩ := by
 rcases h.cells with h0 | ⟨b, off, hb, _⟩
 · omega
 · exact ⟨b, off, hb⟩
theorem marksI_bd (k : Int) (n i : Nat) (h0 : 0 ≤ k) (h1 : k ≤ 1000000000) (hn : n ≤ 2097152) : -9223372036854775808 ≤ (marksI k n).getD i 0 ∧ (marksI k n).getD i 0 ≤ 9223372036854775807 := by
 by_cases h : i < n
 · rw [marksI_at k n i h]; omega
 · simp [marksI, h]
theorem Try.infoI : (Try.prog.info? 3).map (fun i => (i.zero, i.size, i.bytes)) = some (some (.int .i64 0), 1, 8) := by kernel_rfl
theorem set_take_stepI (zs : List Int) (k : Nat) (hk : k < zs.length) (m : Nat) (hm : m = zs.length) :
 (ins (zs.take k) ++ List.replicate (m - k) (Value.int .i64 0)).set k (.int .i64 (zs.getD k 0)) = ins (zs.take (k + 1)) ++ List.replicate (m - (k + 1)) (Value.int .i64 0) := by
 subst hm
 apply List.ext_getElem?
 intro j
 simp only [ins, List.getElem?_set, List.getElem?_append, List.getElem?_map, List.getElem?_replicate, List.length_map, List.length_take, List.length_append, List.length_replicate, List.getElem?_take]
 by_cases h1 : k = j
 · subst h1
   simp [hk, show min (k + 1) zs.length = k + 1 by omega, show min k zs.length = k by omega, show zs.length - k ≠ 0 by omega]
 · by_cases h2 : j < k
   · simp [h1, show j < min k zs.length by omega, show j < min (k+1) zs.length by omega, show j < k + 1 by omega, h2]
   · by_cases h3 : j < zs.length
     · simp [h1, show ¬ j < min k zs.length by omega, show ¬ j < min (k+1) zs.length by omega, show j - min k zs.length < zs.length - k by omega, show j - min (k+1) zs.length < zs.length - (k+1) by omega]
     · simp [h1, show ¬ j < min k zs.length by omega, show ¬ j < min (k+1) zs.length by omega, show ¬ j - min k zs.length < zs.length - k by omega, show ¬ j - min (k+1) zs.length < zs.length - (k+1) by omega]
set_option maxHeartbeats 800000 in
theorem toIntS_pos (b off n cap : Nat) (zs : List Int) (w : World) (hz : zs.length = n) (hn : n ≤ 2097152) (hb : b < w.heap.size)
 (hc : ∀ i, i < n → w.cell? ⟨b, off + i, none⟩ = some (.int .i64 (zs.getD i 0))) :
 Calls Try.prog 126 #[.slice (some ⟨b, off, none⟩) n cap] w fun e w' =>
  e = .returned (.slice (some ⟨w.heap.size, 0, none⟩) n n) ∧ w'.ownsRow w.heap.size 3 1 (.slice (some ⟨w.heap.size, 0, none⟩) n n) n (ins zs) ∧ Below w.heap.size w w' := by
 obtain ⟨i0, hi, hz0, hz1, hz2⟩ := info_parts Try.infoI
 go_enter Try.func126, Try.ntmps126
 go_wp2_with (at_make; refine wpList_make_full _ rfl _ _ 43 rfl w.heap.size 3 i0 (.int .i64 0) 1 Try.underlying43 hi hz0 hz1 _ _ _ _ n rfl rfl (by omega) (by omega) ?b2 ?b3 (Nat.le_refl _) ?_)
 case b2 => rw [hz2]; omega
 case b3 => unfold maxLen; omega
 intro w0 hown0 hgrow0
 go_wp2
 go_loopw [4] (fun i wr => ∃ k : Nat, k ≤ n ∧ i = .int .i64 k ∧ wr.ownsRow w.heap.size 3 1 (.slice (some ⟨w.heap.size, 0, none⟩) n n) n (ins (zs.take k) ++ List.replicate (n - k) (Value.int .i64 0)) ∧ Below w.heap.size w wr)
  (fun i _ => n - (intOf i).toNat)
 case atStart =>
  refine ⟨0, Nat.zero_le _, rfl, ?_, (Below.refl _ _).grown hgrow0 (Nat.le_refl _) (fun k h => by cases h)⟩
  rw [toList_madeCells_one] at hown0
  simpa [ins] using hown0
 case round =>
  obtain ⟨k, hk, rfl, hown, hnx⟩ := hrel
  by_cases hlt : k < n
  · have hcx : wr.cell? ⟨b, off + k, none⟩ = some (.int .i64 (zs.getD k 0)) := (hnx.cell (by exact hb)).trans (hc k hlt)
    have hcy : wr.cell? ⟨w.heap.size, k, none⟩ = some (.int .i64 0) := by
     rw [hown.cellAt k (by omega), List.getElem?_append_right (by simp [ins]; omega)]
     simp [ins, hz, Nat.min_eq_left hk, show 0 < n - k by omega]
    have hfr : wr.frozen? ⟨w.heap.size, k, none⟩ = false := hown.frozenAt k
    have R := hown.stored k (.int .i64 (zs.getD k 0))
    rw [set_take_stepI zs k (by omega) n hz.symm] at R
    have R1 := hid R
    clear R hown
    generalize zs.getD k 0 = c at hcx R1
    go_wp2
    go_roundw
    case rel => exact ⟨k + 1, by omega, by go_num, by simpa using R1.out.1, hnx.setCell (Nat.le_refl _) _⟩
    case measure => simp [intOf]; omega
  · go_wp2
    go_ret
    have hkn : k = n := by omega
    subst hkn
    refine ⟨rfl, ?_, hnx⟩
    rw [List.take_of_length_le (by omega)] at hown
    simpa using hown
set_option maxHeartbeats 800000 in
theorem toIntS_zero (ad : Option Addr) (cap : Nat) (w : World) :
 Calls Try.prog 126 #[.slice ad 0 cap] w fun e w' =>
  e = .returned (.slice (some ⟨w.heap.size, 0, none⟩) 0 0) ∧ w'.ownsRow w.heap.size 3 1 (.slice (some ⟨w.heap.size, 0, none⟩) 0 0) 0 (ins []) ∧ Below w.heap.size w w' := by
 obtain ⟨i0, hi, hz0, hz1, hz2⟩ := info_parts Try.infoI
 go_enter Try.func126, Try.ntmps126
 go_wp2_with (at_make; refine wpList_make_full _ rfl _ _ 43 rfl w.heap.size 3 i0 (.int .i64 0) 1 Try.underlying43 hi hz0 hz1 _ _ _ _ 0 rfl rfl (by omega) (by omega) ?b2 ?b3 (Nat.le_refl _) ?_)
 case b2 => rw [hz2]; omega
 case b3 => unfold maxLen; omega
 intro w0 hown0 hgrow0
 have H0 := hid hown0
 clear hown0
 go_wp2
 go_loopw [4] (fun i wr => i = .int .i64 (0 : Nat) ∧ wr = w0) (fun i _ => 0)
 case atStart => exact ⟨rfl, rfl⟩
 case round =>
  obtain ⟨rfl, rfl⟩ := hrel
  go_wp2
  go_ret
  refine ⟨rfl, ?_, (Below.refl _ _).grown hgrow0 (Nat.le_refl _) (fun k h => by cases h)⟩
  have h := H0.out
  simpa [ins, madeCells] using h
theorem toIntS_any {ad : Option Addr} {n : Nat} (cap : Nat) {zs : List Int} {w : World} (h : ReadsI w ad n zs) (hn : n ≤ 2097152) :
 Calls Try.prog 126 #[.slice ad n cap] w fun e w' =>
  e = .returned (.slice (some ⟨w.heap.size, 0, none⟩) n n) ∧ w'.ownsRow w.heap.size 3 1 (.slice (some ⟨w.heap.size, 0, none⟩) n n) n (ins zs) ∧ Below w.heap.size w w' := by
 obtain ⟨hl, hc, _⟩ := h
 by_cases h0 : n = 0
 · subst h0
   obtain rfl : zs = [] := List.eq_nil_of_length_eq_zero hl
   exact toIntS_zero ad cap w
 · rcases hc with h | ⟨b, off, rfl, hc⟩
   · exact absurd h h0
   · exact toIntS_pos b off n cap zs w hl hn (by have := World.block_lt_of_cell? w _ (hc 0 (by omega)); exact this) hc
set_option maxHeartbeats 800000 in
theorem eqIntS_pos (b off cap b' off' cap' n : Nat) (zs : List Int) (w : World) (hn : n ≤ 2097152)
 (hc : ∀ i, i < n → w.cell? ⟨b, off + i, none⟩ = some (.int .i64 (zs.getD i 0))) (hc' : ∀ i, i < n → w.cell? ⟨b', off' + i, none⟩ = some (.int .i64 (zs.getD i 0))) :
 Calls Try.prog 41 #[.slice (some ⟨b, off, none⟩) n cap, .slice (some ⟨b', off', none⟩) n cap'] w fun e w' => e = .returned (.bool true) ∧ Still w w' := by
 go_enter Try.func41, Try.ntmps41
 go_wp2
 go_loopw [5] (fun i wr => ∃ k m : Nat, k ≤ n ∧ i = .int .i64 k ∧ wr = w.drewN m) (fun i _ => n - (intOf i).toNat)
 case atStart => exact ⟨0, 0, Nat.zero_le _, rfl, rfl⟩
 case round =>
  obtain ⟨k, m, hk, rfl, rfl⟩ := hrel
  by_cases hlt : k < n
  · have h1 := hc k hlt
    have h2 := hc' k hlt
    generalize zs.getD k 0 = c at h1 h2
    have hlt' : (k : Int) < (n : Int) := by omega
    go_wp2
    go_quiet (fail)
    go_wp2
    go_roundw
    case rel => exact ⟨k + 1, _, by omega, by go_num, rfl⟩
    case measure => simp [intOf]; omega
  · go_wp2
    go_ret
    exact ⟨rfl, Still.drewN _ _⟩
set_option maxHeartbeats 800000 in
theorem eqIntS_zero (ad ad' : Option Addr) (cap cap' : Nat) (w : World) :
 Calls Try.prog 41 #[.slice ad 0 cap, .slice ad' 0 cap'] w fun e w' => e = .returned (.bool true) ∧ Still w w' := by
 go_enter Try.func41, Try.ntmps41
 go_wp2
 go_loopw [5] (fun i wr => i = .int .i64 (0 : Nat) ∧ wr = w) (fun _ _ => 0)
 case atStart => exact ⟨rfl, rfl⟩
 case round =>
  obtain ⟨rfl, rfl⟩ := hrel
  go_wp2
  go_ret
  exact ⟨rfl, Still.refl _⟩
theorem eqIntS_any {ad ad' : Option Addr} {n : Nat} (cap cap' : Nat) {zs : List Int} {w : World} (h : ReadsI w ad n zs) (h' : ReadsI w ad' n zs) (hn : n ≤ 2097152) :
 Calls Try.prog 41 #[.slice ad n cap, .slice ad' n cap'] w fun e w' => e = .returned (.bool true) ∧ Still w w' := by
 obtain ⟨hl, hc, _⟩ := h
 obtain ⟨hl', hc', _⟩ := h'
 by_cases h0 : n = 0
 · subst h0; exact eqIntS_zero ad ad' cap cap' w
 · rcases hc with h | ⟨b, off, rfl, hc⟩
   · exact absurd h h0
   rcases hc' with h | ⟨b', off', rfl, hc'⟩
   · exact absurd h h0
   exact eqIntS_pos b off cap b' off' cap' n zs w hn hc hc'
set_option maxHeartbeats 800000 in
theorem markIntS_pos (base g n cap : Nat) (k : Int) (xs : List Value) (w : World) (hn : n ≤ 2097152) (hk0 : 0 ≤ k) (hk1 : k ≤ 1000000000)
 (hown : w.ownsRow base 3 1 (.slice (some ⟨g, 0, none⟩) n cap) n xs) :
 Calls Try.prog 44 #[.slice (some ⟨g, 0, none⟩) n cap, .int .i64 k] w fun e w' =>
  e = .returned (.int .i64 (k + n)) ∧ w'.ownsRow base 3 1 (.slice (some ⟨g, 0, none⟩) n cap) n (ins (marksI k n)) ∧ w.grownBy w' (some g) := by
 have hxl : xs.length = n := by have := hown.1; omega
 go_enter Try.func44, Try.ntmps44
 go_wp2
 go_loopw [1, 5] (fun kk i wr => ∃ j : Nat, j ≤ n ∧ i = .int .i64 j ∧ kk = .int .i64 (k + j) ∧ wr.ownsRow base 3 1 (.slice (some ⟨g, 0, none⟩) n cap) n (ins (marksI k j) ++ xs.drop j) ∧ w.grownBy wr (some g)) (fun _ i _ => n - (intOf i).toNat)
 case atStart => exact ⟨0, Nat.zero_le _, rfl, by simp, by simpa [marksI, ins] using hown, ⟨rfl, rfl, rfl, Nat.le_refl _, fun _ _ _ => rfl⟩⟩
 case round =>
  obtain ⟨j, hj, rfl, rfl, hown', hg⟩ := hrel
  by_cases hlt : j < n
  · have hcy : ∃ v, wr.cell? ⟨g, j, none⟩ = some v := by
     rw [hown'.cellAt j (by omega)]
     exact ⟨_, List.getElem?_eq_getElem (by simp [ins, marksI]; omega)⟩
    obtain ⟨v, hcy⟩ := hcy
    have hfr : wr.frozen? ⟨g, j, none⟩ = false := hown'.frozenAt j
    have R := hown'.stored j (.int .i64 ((k + j) ))
    rw [set_mid _ xs j _ (by simp [ins, marksI]) (by omega)] at R
    have R1 := hid R
    clear R hown' hown
    go_wp2
    go_roundw
    case rel =>
     refine ⟨j + 1, by omega, by go_num, by go_num, ?_, grown_trans hg R1.out.2⟩
     rw [marksI_succ, ins_append]
     exact R1.out.1
    case measure => simp [intOf]; omega
  · go_wp2
    go_ret
    obtain rfl : j = n := by omega
    rw [List.drop_eq_nil_of_le (by omega), List.append_nil] at hown'
    exact ⟨rfl, hown', hg⟩
set_option maxHeartbeats 800000 in
theorem markIntS_zero (ad : Option Addr) (cap : Nat) (k : Int) (w : World) :
 Calls Try.prog 44 #[.slice ad 0 cap, .int .i64 k] w fun e w' => e = .returned (.int .i64 k) ∧ w' = w := by
 go_enter Try.func44, Try.ntmps44
 go_wp2
 go_loopw [1, 5] (fun kk i wr => i = .int .i64 (0 : Nat) ∧ kk = .int .i64 k ∧ wr = w) (fun _ _ _ => 0)
 case atStart => exact ⟨rfl, rfl, rfl⟩
 case round =>
  obtain ⟨rfl, rfl, rfl⟩ := hrel
  go_wp2
  go_ret
  exact ⟨rfl, rfl⟩
theorem markIntS_any {base n : Nat} {v : Value} (k : Int) {xs : List Value} {w : World} (hn : n ≤ 2097152) (hk0 : 0 ≤ k) (hk1 : k ≤ 1000000000)
 (hown : w.ownsRow base 3 1 v n xs) :
 Calls Try.prog 44 #[v, .int .i64 k] w fun e w' =>
  e = .returned (.int .i64 (k + n)) ∧ w'.ownsRow base 3 1 v n (ins (marksI k n)) ∧ w.grownBy w' v.ownBlock := by
 rcases hown.2 with ⟨rfl, rfl⟩ | ⟨g, cap, cur, rfl, _⟩
 · refine (markIntS_zero none 0 k w).mono fun e w' ⟨he, hw⟩ => ?_
   subst hw
   exact ⟨by rw [he]; simp, by simpa [marksI, ins] using World.ownsRow_nil w' base 3 1, grown_refl _ _⟩
 · exact markIntS_pos base g n cap k xs w hn hk0 hk1 hown
set_option maxHeartbeats 800000 in
theorem heldIntS_pos (b off cap n : Nat) (k : Int) (w : World) (hn : n ≤ 2097152) (hk0 : 0 ≤ k) (hk1 : k ≤ 1000000000)
 (hc : ∀ i, i < n → w.cell? ⟨b, off + i, none⟩ = some (.int .i64 ((k + (i : Nat)) ))) :
 Calls Try.prog 45 #[.slice (some ⟨b, off, none⟩) n cap, .int .i64 k] w fun e w' => e = .returned (.int .i64 (k + n)) ∧ w' = w := by
 go_enter Try.func45, Try.ntmps45
 go_wp2
 go_loopw [1, 5] (fun kk i wr => ∃ j : Nat, j ≤ n ∧ i = .int .i64 j ∧ kk = .int .i64 (k + j) ∧ wr = w) (fun _ i _ => n - (intOf i).toNat)
 case atStart => exact ⟨0, Nat.zero_le _, rfl, by simp, rfl⟩
 case round =>
  obtain ⟨j, hj, rfl, rfl, rfl⟩ := hrel
  by_cases hlt : j < n
  · have h1 := hc j hlt
    go_wp2
    go_roundw
    case rel => exact ⟨j + 1, by omega, by go_num, by go_num, by first | trivial | rfl⟩
    case measure => simp [intOf]; omega
  · go_wp2
    go_ret
    obtain rfl : j = n := by omega
    exact ⟨rfl, rfl⟩
set_option maxHeartbeats 800000 in
theorem heldIntS_zero (ad : Option Addr) (cap : Nat) (k : Int) (w : World) :
 Calls Try.prog 45 #[.slice ad 0 cap, .int .i64 k] w fun e w' => e = .returned (.int .i64 k) ∧ w' = w := by
 go_enter Try.func45, Try.ntmps45
 go_wp2
 go_loopw [1, 5] (fun kk i wr => i = .int .i64 (0 : Nat) ∧ kk = .int .i64 k ∧ wr = w) (fun _ _ _ => 0)
 case atStart => exact ⟨rfl, rfl, rfl⟩
 case round =>
  obtain ⟨rfl, rfl, rfl⟩ := hrel
  go_wp2
  go_ret
  exact ⟨rfl, rfl⟩
theorem heldIntS_any {ad : Option Addr} {n : Nat} (cap : Nat) (k : Int) {w : World} (h : ReadsI w ad n (marksI k n)) (hn : n ≤ 2097152) (hk0 : 0 ≤ k) (hk1 : k ≤ 1000000000) :
 Calls Try.prog 45 #[.slice ad n cap, .int .i64 k] w fun e w' => e = .returned (.int .i64 (k + n)) ∧ w' = w := by
 rcases h.cells with rfl | ⟨b, off, rfl, hc⟩
 · refine (heldIntS_zero ad cap k w).mono fun e w' ⟨he, hw⟩ => ⟨by rw [he]; simp, hw⟩
 · exact heldIntS_pos b off cap n k w hn hk0 hk1 fun i hi => by rw [hc i hi, marksI_at k n i hi]
end Go.Proofs.Ytphmlndkjgldkaa
