/- Texts of this proof in one: Ni Nk9 Nm9 Kc11 Im1. -/
import Derived.Test.YtlkoghdajpbffaaGreatMga
import Derived.Test.YtlkoghdajpbffaaGreatMge
import Derived.Test.YtlkoghdajpbffaaGreatMgf
/- Slices of whole numbers: what they read as; the contracts of the laws' toIntS, eqIntS, markIntS, heldIntS. Conditions: at most 2^21 of them. -/

namespace Go.Proofs.YtlkoghdajpbffaaGreat
open Go.RowKit
set_option maxRecDepth 100000
def ins (zs : List Int) : List Value := zs.map (Value.int .i64)
theorem ins_length (zs : List Int) : (ins zs).length = zs.length := by simp [ins]
structure ReadsI (w : World) (ad : Option Addr) (n : Nat) (zs : List Int) : Prop where
 len : zs.length = n
 cells : n = 0 ∨ ∃ b off, ad = some ⟨b, off, none⟩ ∧ ∀ i, i < n → w.cell? ⟨b, off + i, none⟩ = some (.int .i64 (zs.getD i 0))
 bd : ∀ i, -9223372036854775808 ≤ zs.getD i 0 ∧ zs.getD i 0 ≤ 9223372036854775807
theorem ReadsI.below {w w' : World} {ad : Option Addr} {n : Nat} {zs : List Int} (h : ReadsI w ad n zs) {B : Nat} (hb : Below B w w') (hB : w.heap.size ≤ B) : ReadsI w' ad n zs := by
 refine ⟨h.len, ?_, h.bd⟩
 rcases h.cells with h0 | ⟨b, off, rfl, hc⟩
 · exact .inl h0
 · refine .inr ⟨b, off, rfl, fun i hi => ?_⟩
   have hc' := hc i hi
   have := World.block_lt_of_cell? w _ hc'
   rw [hb.cell (p := ⟨b, off + i, none⟩) (by simp at this ⊢; omega)]
   exact hc'
theorem ReadsI.own {w : World} {base : Nat} {v : Value} {n : Nat} {zs : List Int} (h : w.ownsRow base 3 1 v n (ins zs)) (hbd : ∀ i, -9223372036854775808 ≤ zs.getD i 0 ∧ zs.getD i 0 ≤ 9223372036854775807) :
 ∃ ad cap, v = .slice ad n cap ∧ ReadsI w ad n zs ∧ (ad = none ∨ ∃ g, ad = some ⟨g, 0, none⟩ ∧ base ≤ g ∧ g < w.heap.size) := by
 have hl : zs.length = n := by have := h.1; simpa [ins] using this
 rcases h.2 with ⟨rfl, rfl⟩ | ⟨g, cap, cur, rfl, hb, hg, hnc, hcm, hcs, htake⟩
 · exact ⟨none, 0, rfl, ⟨hl, .inl rfl, hbd⟩, .inl rfl⟩
 · refine ⟨_, cap, rfl, ⟨hl, .inr ⟨g, 0, rfl, fun i hi => ?_⟩, hbd⟩, .inr ⟨g, rfl, hb, (qL hg)⟩⟩
   rw [Nat.zero_add, h.cellAt i (by omega)]
   simp [ins, hl, hi]
def marksI (k : Int) (n : Nat) : List Int := (List.range n).map fun i => (k + (i : Nat)) 
theorem marksI_length (k : Int) (n : Nat) : (marksI k n).length = n := by simp [marksI]
theorem marksI_succ (k : Int) (n : Nat) : marksI k (n + 1) = marksI k n ++ [(k + (n : Nat)) ] := by simp [marksI, List.range_succ]
theorem marksI_at (k : Int) (n i : Nat) (h : i < n) : (marksI k n).getD i 0 = (k + (i : Nat))  := by simp [marksI, h]
theorem ins_append (a b : List Int) : ins (a ++ b) = ins a ++ ins b := by simp [ins]
theorem readsI_in {w : World} {a : Option Addr} {len cap : Nat} {zs : List Int}
 (h : (a = none ∧ len = 0 ∧ cap = 0 ∧ zs = []) ∨ ∃ x, a = some x ∧ len ≤ cap ∧ cap ≤ maxLen ∧ zs.length = cap ∧ (∀ i, i < zs.length → w.cell? (x.add i) = some (.int .i64 (zs.getD i 0))) ∧ ∀ n ∈ zs, (Lit.int .i64 n).wf = true) :
 ReadsI w a len (zs.take len) := by
 rcases h with ⟨rfl, rfl, rfl, rfl⟩ | ⟨x, rfl, hlc, hm, hz, hc, hwf⟩
 · exact ⟨rfl, .inl rfl, by simp⟩
 · refine ⟨by simp; omega, ?_, ?_⟩
   · by_cases h0 : len = 0
     · exact .inl h0
     · obtain ⟨b, off, rfl, hc'⟩ := ints_at hc (by omega)
       refine .inr ⟨b, off, rfl, fun i hi => ?_⟩
       rw [hc' i (by omega)]
       simp [hi]
   · intro i
     by_cases hi : i < (zs.take len).length
     · rw [List.getD_eq_getElem?_getD, List.getElem?_eq_getElem hi]
       exact bounds_i64 (hwf _ (List.mem_of_mem_take (List.getElem_mem hi)))
     · rw [List.getD_eq_getElem?_getD, List.getElem?_eq_none (by omega)]; simp
theorem ins_one (zs : List Int) : ∀ u ∈ ins zs, u.oneCell' = true := by
 intro u hu
 simp only [ins, List.mem_map] at hu
 obtain ⟨x, _, rfl⟩ := hu
 rfl
theorem ReadsI.pos {w : World} {ad : Option Addr} {n : Nat} {zs : List Int} (h : ReadsI w ad n zs) (hn : 0 < n) : ∃ b off, ad = some ⟨b, off, none⟩ := by
 rcases h.cells with h0 | ⟨b, off, hb, _⟩
 · omega
 · exact ⟨b, off, hb⟩
theorem marksI_bd (k : Int) (n i : Nat) (h0 : 0 ≤ k) (h1 : k ≤ 1000000000) (hn : n ≤ 2097152) : -9223372036854775808 ≤ (marksI k n).getD i 0 ∧ (marksI k n).getD i 0 ≤ 9223372036854775807 := by
 by_cases h : i < n
 · rw [marksI_at k n i h]; omega
 · simp [marksI, h]
theorem Tryz.infoI : (Tryz.prog.info? 3).map (fun i => (i.zero, i.size, i.bytes)) = some (some (.int .i64 0), 1, 8) := by kernel_rfl
theorem set_take_stepI (zs : List Int) (k : Nat) (hk : k < zs.length) (m : Nat) (hm : m = zs.length) :
 (ins (zs.take k) ++ List.replicate (m - k) (Value.int .i64 0)).set k (.int .i64 (zs.getD k 0)) = ins (zs.take (k + 1)) ++ List.replicate (m - (k + 1)) (Value.int .i64 0) := by
 subst hm
 apply List.ext_getElem?
 intro j
 simp only [ins, List.getElem?_set, List.getElem?_append, List.getElem?_map, List.getElem?_replicate, List.length_map, List.length_take, List.length_append, List.length_replicate, List.getElem?_take]
 by_cases h1 : k = j
 · subst h1
   simp [hk, show min (k + 1) zs.length = k + 1 by omega, show min k zs.length = k by omega, show zs.length - k ≠ 0 by omega]
 · by_cases h2 : j < k
   · simp [h1, show j < min k zs.length by omega, show j < min (k+1) zs.length by omega, show j < k + 1 by omega, h2]
   · by_cases h3 : j < zs.length
     · simp [h1, show ¬ j < min k zs.length by omega, show ¬ j < min (k+1) zs.length by omega, show j - min k zs.length < zs.length - k by omega, show j - min (k+1) zs.length < zs.length - (k+1) by omega]
     · simp [h1, show ¬ j < min k zs.length by omega, show ¬ j < min (k+1) zs.length by omega, show ¬ j - min k zs.length < zs.length - k by omega, show ¬ j - min (k+1) zs.length < zs.length - (k+1) by omega]
set_option maxHeartbeats 800000 in
theorem toIntS_pos (b off n cap : Nat) (zs : List Int) (w : World) (hz : zs.length = n) (hn : n ≤ 2097152) (hb : b < w.heap.size)
 (hc : ∀ i, i < n → w.cell? ⟨b, off + i, none⟩ = some (.int .i64 (zs.getD i 0))) :
 Calls Tryz.prog 74 #[.slice (some ⟨b, off, none⟩) n cap] w fun e w' =>
  e = .returned (.slice (some ⟨w.heap.size, 0, none⟩) n n) ∧ w'.ownsRow w.heap.size 3 1 (.slice (some ⟨w.heap.size, 0, none⟩) n n) n (ins zs) ∧ Below w.heap.size w w' := by
 obtain ⟨i0, hi, hz0, hz1, hz2⟩ := info_parts Tryz.infoI
 go_enter Tryz.func74, Tryz.ntmps74
 go_wp2_with (at_make; refine wpList_make_full _ rfl _ _ 59 rfl w.heap.size 3 i0 (.int .i64 0) 1 Tryz.underlying59 hi hz0 hz1 _ _ _ _ n rfl rfl (by omega) (by omega) ?b2 ?b3 qN ?_)
 case b2 => rw [hz2]; omega
 case b3 => unfold maxLen; omega
 intro w0 hown0 hgrow0
 go_wp2
 go_loopw [4] (fun i wr => ∃ k : Nat, k ≤ n ∧ i = .int .i64 k ∧ wr.ownsRow w.heap.size 3 1 (.slice (some ⟨w.heap.size, 0, none⟩) n n) n (ins (zs.take k) ++ List.replicate (n - k) (Value.int .i64 0)) ∧ Below w.heap.size w wr)
  (fun i _ => n - (intOf i).toNat)
 case atStart =>
  refine ⟨0, Nat.zero_le _, rfl, ?_, (Below.refl _ _).grown hgrow0 qN (fun k h => by cases h)⟩
  rw [toList_madeCells_one] at hown0
  simpa [ins] using hown0
 case round =>
  obtain ⟨k, hk, rfl, hown, hnx⟩ := hrel
  by_cases hlt : k < n
  · have hcx : wr.cell? ⟨b, off + k, none⟩ = some (.int .i64 (zs.getD k 0)) := (hnx.cell (by exact hb)).trans (hc k hlt)
    have hcy : wr.cell? ⟨w.heap.size, k, none⟩ = some (.int .i64 0) := by
     rw [hown.cellAt k (by omega), List.getElem?_append_right (by simp [ins]; omega)]
     simp [ins, hz, Nat.min_eq_left hk, show 0 < n - k by omega]
    have hfr : wr.frozen? ⟨w.heap.size, k, none⟩ = false := hown.frozenAt k
    have R := hown.stored k (.int .i64 (zs.getD k 0))
    rw [set_take_stepI zs k (by omega) n hz.symm] at R
    have R1 := hid R
    clear R hown
    generalize zs.getD k 0 = c at hcx R1
    go_wp2
    go_roundw
    case rel => exact ⟨k + 1, by omega, by go_num, by simpa using R1.out.1, hnx.setCell qN _⟩
    case measure => simp [intOf]; omega
  · go_wp2
    go_ret
    have hkn : k = n := by omega
    subst hkn
    refine ⟨rfl, ?_, hnx⟩
    rw [List.take_of_length_le (by omega)] at hown
    simpa using hown
set_option maxHeartbeats 800000 in
theorem toIntS_zero (ad : Option Addr) (cap : Nat) (w : World) :
 Calls Tryz.prog 74 #[.slice ad 0 cap] w fun e w' =>
  e = .returned (.slice (some ⟨w.heap.size, 0, none⟩) 0 0) ∧ w'.ownsRow w.heap.size 3 1 (.slice (some ⟨w.heap.size, 0, none⟩) 0 0) 0 (ins []) ∧ Below w.heap.size w w' := by
 obtain ⟨i0, hi, hz0, hz1, hz2⟩ := info_parts Tryz.infoI
 go_enter Tryz.func74, Tryz.ntmps74
 go_wp2_with (at_make; refine wpList_make_full _ rfl _ _ 59 rfl w.heap.size 3 i0 (.int .i64 0) 1 Tryz.underlying59 hi hz0 hz1 _ _ _ _ 0 rfl rfl (by omega) (by omega) ?b2 ?b3 qN ?_)
 case b2 => rw [hz2]; omega
 case b3 => unfold maxLen; omega
 intro w0 hown0 hgrow0
 have H0 := hid hown0
 clear hown0
 go_wp2
 go_loopw [4] (fun i wr => i = .int .i64 (0 : Nat) ∧ wr = w0) (fun i _ => 0)
 case atStart => exact ⟨rfl, rfl⟩
 case round =>
  obtain ⟨rfl, rfl⟩ := hrel
  go_wp2
  go_ret
  refine ⟨rfl, ?_, (Below.refl _ _).grown hgrow0 qN (fun k h => by cases h)⟩
  have h := H0.out
  simpa [ins, madeCells] using h
theorem toIntS_any {ad : Option Addr} {n : Nat} (cap : Nat) {zs : List Int} {w : World} (h : ReadsI w ad n zs) (hn : n ≤ 2097152) :
 Calls Tryz.prog 74 #[.slice ad n cap] w fun e w' =>
  e = .returned (.slice (some ⟨w.heap.size, 0, none⟩) n n) ∧ w'.ownsRow w.heap.size 3 1 (.slice (some ⟨w.heap.size, 0, none⟩) n n) n (ins zs) ∧ Below w.heap.size w w' := by
 obtain ⟨hl, hc, _⟩ := h
 by_cases h0 : n = 0
 · subst h0
   obtain rfl : zs = [] := List.eq_nil_of_length_eq_zero hl
   exact toIntS_zero ad cap w
 · rcases hc with h | ⟨b, off, rfl, hc⟩
   · exact absurd h h0
   · exact toIntS_pos b off n cap zs w hl hn (by have := World.block_lt_of_cell? w _ (hc 0 (by omega)); exact this) hc
set_option maxHeartbeats 800000 in
theorem eqIntS_pos (b off cap b' off' cap' n : Nat) (zs : List Int) (w : World) (hn : n ≤ 2097152)
 (hc : ∀ i, i < n → w.cell? ⟨b, off + i, none⟩ = some (.int .i64 (zs.getD i 0))) (hc' : ∀ i, i < n → w.cell? ⟨b', off' + i, none⟩ = some (.int .i64 (zs.getD i 0))) :
 Calls Tryz.prog 92 #[.slice (some ⟨b, off, none⟩) n cap, .slice (some ⟨b', off', none⟩) n cap'] w fun e w' => e = .returned (.bool true) ∧ Still w w' := by
 go_enter Tryz.func92, Tryz.ntmps92
 go_wp2
 go_loopw [5] (fun i wr => ∃ k m : Nat, k ≤ n ∧ i = .int .i64 k ∧ wr = w.drewN m) (fun i _ => n - (intOf i).toNat)
 case atStart => exact ⟨0, 0, Nat.zero_le _, rfl, rfl⟩
 case round =>
  obtain ⟨k, m, hk, rfl, rfl⟩ := hrel
  by_cases hlt : k < n
  · have h1 := hc k hlt
    have h2 := hc' k hlt
    generalize zs.getD k 0 = c at h1 h2
    have hlt' : (k : Int) < (n : Int) := by omega
    go_wp2
    go_quiet (fail)
    go_wp2
    go_roundw
    case rel => exact ⟨k + 1, _, by omega, by go_num, rfl⟩
    case measure => simp [intOf]; omega
  · go_wp2
    go_ret
    exact ⟨rfl, Still.drewN _ _⟩
set_option maxHeartbeats 800000 in
theorem eqIntS_zero (ad ad' : Option Addr) (cap cap' : Nat) (w : World) :
 Calls Tryz.prog 92 #[.slice ad 0 cap, .slice ad' 0 cap'] w fun e w' => e = .returned (.bool true) ∧ Still w w' := by
 go_enter Tryz.func92, Tryz.ntmps92
 go_wp2
 go_loopw [5] (fun i wr => i = .int .i64 (0 : Nat) ∧ wr = w) (fun _ _ => 0)
 case atStart => exact ⟨rfl, rfl⟩
 case round =>
  obtain ⟨rfl, rfl⟩ := hrel
  go_wp2
  go_ret
  exact ⟨rfl, Still.refl _⟩
theorem eqIntS_any {ad ad' : Option Addr} {n : Nat} (cap cap' : Nat) {zs : List Int} {w : World} (h : ReadsI w ad n zs) (h' : ReadsI w ad' n zs) (hn : n ≤ 2097152) :
 Calls Tryz.prog 92 #[.slice ad n cap, .slice ad' n cap'] w fun e w' => e = .returned (.bool true) ∧ Still w w' := by
 obtain ⟨hl, hc, _⟩ := h
 obtain ⟨hl', hc', _⟩ := h'
 by_cases h0 : n = 0
 · subst h0; exact eqIntS_zero ad ad' cap cap' w
 · rcases hc with h | ⟨b, off, rfl, hc⟩
   · exact absurd h h0
   rcases hc' with h | ⟨b', off', rfl, hc'⟩
   · exact absurd h h0
   exact eqIntS_pos b off cap b' off' cap' n zs w hn hc hc'
set_option maxHeartbeats 800000 in
theorem markIntS_pos (base g n cap : Nat) (k : Int) (xs : List Value) (w : World) (hn : n ≤ 2097152) (hk0 : 0 ≤ k) (hk1 : k ≤ 1000000000)
 (hown : w.ownsRow base 3 1 (.slice (some ⟨g, 0, none⟩) n cap) n xs) :
 Calls Tryz.prog 64 #[.slice (some ⟨g, 0, none⟩) n cap, .int .i64 k] w fun e w' =>
  e = .returned (.int .i64 (k + n)) ∧ w'.ownsRow base 3 1 (.slice (some ⟨g, 0, none⟩) n cap) n (ins (marksI k n)) ∧ w.grownBy w' (some g) := by
 have hxl : xs.length = n := by have := hown.1; omega
 go_enter Tryz.func64, Tryz.ntmps64
 go_wp2
 go_loopw [1, 5] (fun kk i wr => ∃ j : Nat, j ≤ n ∧ i = .int .i64 j ∧ kk = .int .i64 (k + j) ∧ wr.ownsRow base 3 1 (.slice (some ⟨g, 0, none⟩) n cap) n (ins (marksI k j) ++ xs.drop j) ∧ w.grownBy wr (some g)) (fun _ i _ => n - (intOf i).toNat)
 case atStart => exact ⟨0, Nat.zero_le _, rfl, by simp, by simpa [marksI, ins] using hown, ⟨rfl, rfl, rfl, Nat.le_refl _, fun _ _ _ => rfl⟩⟩
 case round =>
  obtain ⟨j, hj, rfl, rfl, hown', hg⟩ := hrel
  by_cases hlt : j < n
  · have hcy : ∃ v, wr.cell? ⟨g, j, none⟩ = some v := by
     rw [hown'.cellAt j (by omega)]
     exact ⟨_, List.getElem?_eq_getElem (by simp [ins, marksI]; omega)⟩
    obtain ⟨v, hcy⟩ := hcy
    have hfr : wr.frozen? ⟨g, j, none⟩ = false := hown'.frozenAt j
    have R := hown'.stored j (.int .i64 ((k + j) ))
    rw [set_mid _ xs j _ (by simp [ins, marksI]) (by omega)] at R
    have R1 := hid R
    clear R hown' hown
    go_wp2
    go_roundw
    case rel =>
     refine ⟨j + 1, by omega, by go_num, by go_num, ?_, grown_trans hg R1.out.2⟩
     rw [marksI_succ, ins_append]
     exact R1.out.1
    case measure => simp [intOf]; omega
  · go_wp2
    go_ret
    obtain rfl : j = n := by omega
    rw [List.drop_eq_nil_of_le (by omega), List.append_nil] at hown'
    exact ⟨rfl, hown', hg⟩
set_option maxHeartbeats 800000 in
theorem markIntS_zero (ad : Option Addr) (cap : Nat) (k : Int) (w : World) :
 Calls Tryz.prog 64 #[.slice ad 0 cap, .int .i64 k] w fun e w' => e = .returned (.int .i64 k) ∧ w' = w := by
 go_enter Tryz.func64, Tryz.ntmps64
 go_wp2
 go_loopw [1, 5] (fun kk i wr => i = .int .i64 (0 : Nat) ∧ kk = .int .i64 k ∧ wr = w) (fun _ _ _ => 0)
 case atStart => exact ⟨rfl, rfl, rfl⟩
 case round =>
  obtain ⟨rfl, rfl, rfl⟩ := hrel
  go_wp2
  go_ret
  exact ⟨rfl, rfl⟩
theorem markIntS_any {base n : Nat} {v : Value} (k : Int) {xs : List Value} {w : World} (hn : n ≤ 2097152) (hk0 : 0 ≤ k) (hk1 : k ≤ 1000000000)
 (hown : w.ownsRow base 3 1 v n xs) :
 Calls Tryz.prog 64 #[v, .int .i64 k] w fun e w' =>
  e = .returned (.int .i64 (k + n)) ∧ w'.ownsRow base 3 1 v n (ins (marksI k n)) ∧ w.grownBy w' v.ownBlock := by
 rcases hown.2 with ⟨rfl, rfl⟩ | ⟨g, cap, cur, rfl, _⟩
 · refine (markIntS_zero none 0 k w).mono fun e w' ⟨he, hw⟩ => ?_
   subst hw
   exact ⟨by rw [he]; simp, by simpa [marksI, ins] using World.ownsRow_nil w' base 3 1, grown_refl _ _⟩
 · exact markIntS_pos base g n cap k xs w hn hk0 hk1 hown
set_option maxHeartbeats 800000 in
theorem heldIntS_pos (b off cap n : Nat) (k : Int) (w : World) (hn : n ≤ 2097152) (hk0 : 0 ≤ k) (hk1 : k ≤ 1000000000)
 (hc : ∀ i, i < n → w.cell? ⟨b, off + i, none⟩ = some (.int .i64 ((k + (i : Nat)) ))) :
 Calls Tryz.prog 66 #[.slice (some ⟨b, off, none⟩) n cap, .int .i64 k] w fun e w' => e = .returned (.int .i64 (k + n)) ∧ w' = w := by
 go_enter Tryz.func66, Tryz.ntmps66
 go_wp2
 go_loopw [1, 5] (fun kk i wr => ∃ j : Nat, j ≤ n ∧ i = .int .i64 j ∧ kk = .int .i64 (k + j) ∧ wr = w) (fun _ i _ => n - (intOf i).toNat)
 case atStart => exact ⟨0, Nat.zero_le _, rfl, by simp, rfl⟩
 case round =>
  obtain ⟨j, hj, rfl, rfl, rfl⟩ := hrel
  by_cases hlt : j < n
  · have h1 := hc j hlt
    go_wp2
    go_roundw
    case rel => exact ⟨j + 1, by omega, by go_num, by go_num, by first | trivial | rfl⟩
    case measure => simp [intOf]; omega
  · go_wp2
    go_ret
    obtain rfl : j = n := by omega
    exact ⟨rfl, rfl⟩
set_option maxHeartbeats 800000 in
theorem heldIntS_zero (ad : Option Addr) (cap : Nat) (k : Int) (w : World) :
 Calls Tryz.prog 66 #[.slice ad 0 cap, .int .i64 k] w fun e w' => e = .returned (.int .i64 k) ∧ w' = w := by
 go_enter Tryz.func66, Tryz.ntmps66
 go_wp2
 go_loopw [1, 5] (fun kk i wr => i = .int .i64 (0 : Nat) ∧ kk = .int .i64 k ∧ wr = w) (fun _ _ _ => 0)
 case atStart => exact ⟨rfl, rfl, rfl⟩
 case round =>
  obtain ⟨rfl, rfl, rfl⟩ := hrel
  go_wp2
  go_ret
  exact ⟨rfl, rfl⟩
theorem heldIntS_any {ad : Option Addr} {n : Nat} (cap : Nat) (k : Int) {w : World} (h : ReadsI w ad n (marksI k n)) (hn : n ≤ 2097152) (hk0 : 0 ≤ k) (hk1 : k ≤ 1000000000) :
 Calls Tryz.prog 66 #[.slice ad n cap, .int .i64 k] w fun e w' => e = .returned (.int .i64 (k + n)) ∧ w' = w := by
 rcases h.cells with rfl | ⟨b, off, rfl, hc⟩
 · refine (heldIntS_zero ad cap k w).mono fun e w' ⟨he, hw⟩ => ⟨by rw [he]; simp, hw⟩
 · exact heldIntS_pos b off cap n k w hn hk0 hk1 fun i hi => by rw [hc i hi, marksI_at k n i hi]
end Go.Proofs.YtlkoghdajpbffaaGreat
/- Rows of whole numbers, apart from each other. No statement of its own; no conditions. -/


namespace Go.Proofs.YtlkoghdajpbffaaGreat
open Go.RowKit
set_option maxRecDepth 100000
end Go.Proofs.YtlkoghdajpbffaaGreat
/- A slice of snapshots: what it reads as, its cells. No statement of its own; no conditions. -/

namespace Go.Proofs.YtlkoghdajpbffaaGreat
open Go.RowKit
set_option maxRecDepth 100000
theorem set_rep9 {α : Type} (xs : List α) (k n : Nat) (z v : α) (hx : xs.length = k) (hk : k < n) : (xs ++ List.replicate (n - k) z).set k v = (xs ++ [v]) ++ List.replicate (n - (k + 1)) z := by
 rw [List.set_append_right _ _ (by omega), hx, Nat.sub_self, show n - k = (n - (k + 1)) + 1 by omega, List.replicate_succ, List.set_cons_zero]
 simp
end Go.Proofs.YtlkoghdajpbffaaGreat
/- The contracts of the laws' toEntryS, szEntryS, eqEntryS. Conditions: entries of at most 2^21 bytes together. -/


namespace Go.Proofs.YtlkoghdajpbffaaGreat
open Go.RowKit
set_option maxRecDepth 100000
theorem made5n (a b c d e : Value) : ∀ n : Nat, (madeCells #[a, b, c, d, e] (n * 5)).toList = (List.replicate n [a, b, c, d, e]).flatten := by
 intro n
 have h : ∀ n : Nat, (madeCells #[a, b, c, d, e] (n * 5)).toList = (List.range (n * 5)).map (fun i => #[a, b, c, d, e][i % 5]!) := by
  intro n
  simp [madeCells]
 rw [h]
 induction n with
 | zero => rfl
 | succ n ih =>
  rw [show (n + 1) * 5 = n * 5 + 5 by omega, List.range_add, List.map_append, ih, List.replicate_succ', List.flatten_append]
  congr 1
  simp [List.range_succ]
theorem zeroE (n : Nat) : cellsE (List.replicate n en0) (List.replicate n nilS) = (List.replicate n [Value.int .i64 0, .int .i64 0, .float .f64 0, nilS, .int .i64 0]).flatten := by
 induction n with
 | zero => rfl
 | succ n ih => rw [List.replicate_succ, List.replicate_succ, cellsE, ih, List.replicate_succ]; rfl
theorem cellsE_set5 : ∀ (es : List En) (xs : List Value) (k : Nat) (e : En) (x : Value), xs.length = es.length → k < es.length → (((((cellsE es xs).set (k * 5) (.int .i64 e.K)).set (k * 5 + 1) (.int .i64 e.N)).set (k * 5 + 2) (.float .f64 e.F)).set (k * 5 + 3) x).set (k * 5 + 4) (.int .i64 e.id) = cellsE (es.set k e) (xs.set k x)
 | q :: es, y :: xs, 0, e, x, _, _ => by simp [cellsE, cellsE1]
 | q :: es, y :: xs, k + 1, e, x, h, hk => by
  have ih := cellsE_set5 es xs k e x (by simpa using h) (by simpa using hk)
  rw [show (k + 1) * 5 = k * 5 + 5 by omega]
  simp only [cellsE, cellsE1, List.cons_append, List.nil_append, List.set_cons_succ, ← ih]
def sumE : List En → Nat
 | [] => 0
 | e :: es => e.Z.length + sumE es
theorem sumE_app : ∀ a b : List En, sumE (a ++ b) = sumE a + sumE b
 | [], b => by simp [sumE]
 | e :: a, b => by simp [sumE, sumE_app a b]; omega
theorem take_snocE (es : List En) (k : Nat) (h : k < es.length) : es.take (k + 1) = es.take k ++ [es.getD k en0] := by
 rw [List.take_add_one, List.getElem?_eq_getElem h, Option.toList_some]
 simp [List.getD, h]
theorem sumE_step (es : List En) (k : Nat) (h : k < es.length) : sumE (es.take (k + 1)) = sumE (es.take k) + (es.getD k en0).Z.length := by
 rw [take_snocE es k h, sumE_app]; simp [sumE]
theorem sumE_take (es : List En) (k : Nat) : sumE (es.take k) ≤ sumE es := by
 have : sumE es = sumE (es.take k ++ es.drop k) := by rw [List.take_append_drop]
 rw [this, sumE_app]; omega
theorem sumE_at (es : List En) (k : Nat) (h : k < es.length) : (es.getD k en0).Z.length ≤ sumE es := by
 have h1 := sumE_step es k h
 have h2 := sumE_take es (k + 1)
 omega
set_option maxHeartbeats 3200000 in
theorem toEntryS {ad : Option Addr} {n : Nat} (cap : Nat) {es : List En} {w : World} (h : ReadsE w ad es) (hl : es.length = n) (hn : n ≤ 2097152) (hs : sumE es ≤ 2097152) :
 Calls Tryz.prog 73 #[.slice ad n cap] w fun e w' => e = .returned (.slice (some ⟨w.heap.size, 0, none⟩) n n) ∧ OwnE w' w.heap.size w'.heap.size (.slice (some ⟨w.heap.size, 0, none⟩) n n) es ∧ Below w.heap.size w w' := by
 obtain ⟨i0, hi, hz0, hz1, hz2⟩ := info_parts Tryz.infoEn
 have HFL := hid (show ∀ i, (es.getD i en0).F < 18446744073709551616 from fun i => by
  by_cases hc : i < es.length
  · obtain ⟨_, _, _, _, _, _, _, _, _, hf⟩ := h.at (k := i) hc
    exact hf
  · rw [List.getD_eq_getElem?_getD, List.getElem?_eq_none (by omega)]; simp [en0])
 go_enter Tryz.func73, Tryz.ntmps73
 go_wp2_with (at_make; refine wpList_make_full _ rfl _ _ 52 rfl w.heap.size 48 i0 (.agg #[.int .i64 0, .int .i64 0, .float .f64 0, .slice none 0 0, .int .i64 0]) 5 Tryz.underlying52 hi hz0 hz1 _ _ _ _ n rfl rfl (by omega) (by omega) ?b2 ?b3 qN ?_)
 case b2 => rw [hz2]; omega
 case b3 => unfold maxLen; omega
 intro sn0' hown0 hgrow0
 go_wp2
 go_loopw [4] (fun i wr => ∃ (k : Nat) (xs : List Value), k ≤ n ∧ i = .int .i64 k ∧ xs.length = k ∧ Hid (wr.ownsRow w.heap.size 48 5 (.slice (some ⟨w.heap.size, 0, none⟩) n n) n (cellsE (es.take k ++ List.replicate (n - k) en0) (xs ++ List.replicate (n - k) nilS))) ∧ Hid (Bands wr w.heap.size wr.heap.size xs (textsE (es.take k))) ∧ Hid (Below w.heap.size w wr))
  (fun i _ => n - (intOf i).toNat)
 case atStart =>
  refine ⟨0, [], Nat.zero_le _, rfl, rfl, hid ?_, hid (by rw [List.take_zero]; exact Bands.nil _ _ _), hid ((Below.refl _ _).grown hgrow0 qN (fun k h => by cases h))⟩
  rw [made5n, ← nilS, ← zeroE] at hown0
  simpa using hown0
 case round =>
  obtain ⟨k, xs, hk, rfl, hx, hown, hB, hnx⟩ := hrel
  by_cases hlt : k < n
  · have hlt' : (k : Int) < (n : Int) := by omega
    obtain ⟨b, off, a, c, rfl, bx0, r0, _, _, _⟩ := h.at (k := k) (by omega)
    have bx := bx0.below hnx.out qN
    have hr := hid (r0.below hnx.out qN)
    have hlen := sumE_at es k (by omega)
    have HT := hid (take_snocE es k (by omega))
    have HBD := hid r0.bd
    generalize es.getD k en0 = e at *
    obtain ⟨K, N, F, Z, id⟩ := e
    obtain ⟨m, hm⟩ : ∃ m, Z.length = m := ⟨_, rfl⟩
    simp only at bx hlen hr HBD
    rw [hm] at bx hlen hr
    have hmm : m ≤ 2097152 := by omega
    have HM := hid hm
    have hst := fun w a m => run_store Tryz.prog w a (.float .f64 F) m rfl
    obtain ⟨c0, c1, c2, c3, c4⟩ := bx
    clear bx0 r0 hm hown0 hgrow0 hlen
    go_wp2_with fail
    clear c0 c1 c2 c3 c4
    refine (toEntry K N F c id hr.out (by omega)).mono ?_
    rintro e w1 ⟨g, rfl, o1, b1⟩
    have hown1 := owns_below b1 (by have := hnx.out.size; omega) hown.out
    have hxl : (xs ++ List.replicate (n - k) nilS).length = (es.take k ++ List.replicate (n - k) en0).length := by simp; omega
    have hel : (es.take k ++ List.replicate (n - k) en0).length = n := by simp; omega
    have hz0 : (cellsE (es.take k ++ List.replicate (n - k) en0) (xs ++ List.replicate (n - k) nilS)).length = n * 5 := by
     rw [cellsE_len _ _ hxl, hel]
    have hcc : ∀ q, q < 5 → ∃ v, w1.cell? ⟨w.heap.size, k * 5 + q, none⟩ = some v := fun q hq => by
     rw [hown1.cellAt (k * 5 + q) (by omega)]
     exact ⟨_, List.getElem?_eq_getElem (by omega)⟩
    obtain ⟨v0, d0⟩ := hcc 0 (by omega)
    obtain ⟨v1, d1⟩ := hcc 1 (by omega)
    obtain ⟨v2, d2⟩ := hcc 2 (by omega)
    obtain ⟨v3, d3⟩ := hcc 3 (by omega)
    obtain ⟨v4, d4⟩ := hcc 4 (by omega)
    simp only [Nat.add_zero] at d0
    have fz : ∀ q, w1.frozen? ⟨w.heap.size, q, none⟩ = false := fun q => hown1.frozenAt q
    have f0 := fz (k * 5)
    have f1 := fz (k * 5 + 1)
    have f2 := fz (k * 5 + 2)
    have f3 := fz (k * 5 + 3)
    have f4 := fz (k * 5 + 4)
    have S0 := hown1.stored (k * 5) (.int .i64 K)
    have S1 := S0.1.stored (k * 5 + 1) (.int .i64 N)
    have S2 := S1.1.stored (k * 5 + 2) (.float .f64 F)
    have S3 := S2.1.stored (k * 5 + 3) (.slice (some ⟨g, 0, none⟩) m m)
    have S4 := S3.1.stored (k * 5 + 4) (.int .i64 id)
    have hB1 : Bands w1 w.heap.size w1.heap.size (xs ++ [.slice (some ⟨g, 0, none⟩) m m]) (textsE (es.take k) ++ [Z]) := (hB.out.agree (Agree.below b1 qN)).snoc (by have := hnx.out.size; omega) b1.size (by rw [HM.out]; exact o1) HBD.out qN
    have B1 := hB1.beside S0.2 (fun i => owns_ne (hB1.own i) hown1 (by decide))
    have B2 := B1.beside S1.2 (fun i => owns_ne (B1.own i) S0.1 (by decide))
    have B3 := B2.beside S2.2 (fun i => owns_ne (B2.own i) S1.1 (by decide))
    have B4 := B3.beside S3.2 (fun i => owns_ne (B3.own i) S2.1 (by decide))
    have B5 := B4.beside S4.2 (fun i => owns_ne (B4.own i) S3.1 (by decide))
    have V5 := (((((hnx.out.trans (b1.mono hnx.out.size)).setCell (p := ⟨w.heap.size, k * 5, none⟩) qN (.int .i64 K)).setCell (p := ⟨w.heap.size, k * 5 + 1, none⟩) qN (.int .i64 N)).setCell (p := ⟨w.heap.size, k * 5 + 2, none⟩) qN (.float .f64 F)).setCell (p := ⟨w.heap.size, k * 5 + 3, none⟩) qN (.slice (some ⟨g, 0, none⟩) m m)).setCell (p := ⟨w.heap.size, k * 5 + 4, none⟩) qN (.int .i64 id)
    have O5 := S4.1
    rw [cellsE_set5 _ _ k ⟨K, N, F, Z, id⟩ _ hxl (by rw [hel]; omega), set_rep9 _ k n en0 _ (by simp; omega) hlt, set_rep9 xs k n nilS _ hx hlt, ← HT.out] at O5
    have HO := hid O5
    have HBB := hid B5
    have HV := hid V5
    clear S0 S1 S2 S3 S4 hB1 B1 B2 B3 B4 B5 V5 O5 hown1 o1 b1 hz0 hcc fz hxl hel
    go_wp2_with fail
    go_roundw
    case rel => exact ⟨k + 1, xs ++ [.slice (some ⟨g, 0, none⟩) m m], by omega, by go_num, by simp [hx], HO, hid (by rw [HT.out, textsE_app]; simpa [textsE] using HBB.out), HV⟩
    case measure => simp [intOf]; omega
  · go_wp2
    go_ret
    have hkn : k = n := by omega
    subst hkn
    refine ⟨rfl, ⟨⟨xs, ?_, ?_⟩, fun g hg => (hown.out.lt g hg).2, HFL.out⟩, hnx.out⟩
    · have := hown.out
      rw [List.take_of_length_le (by omega)] at this
      rw [hl]
      simpa using this
    · have := hB.out
      rw [List.take_of_length_le (by omega)] at this
      exact this
set_option maxHeartbeats 1600000 in
theorem szEntryS {ad : Option Addr} {n : Nat} (cap : Nat) {es : List En} {w : World} (h : ReadsE w ad es) (hl : es.length = n) (hn : n ≤ 9223372036854775807) (left : Int) (h0 : 0 ≤ left) (h1 : left ≤ 1048576) :
 Calls Tryz.prog 67 #[.slice ad n cap, .int .i64 left] w fun e w' => e = .returned (.int .i64 (lft11 left (n + sumE es))) ∧ Below w.heap.size w w' := by
 have a1 : (0 : Int) ≤ (n : Int) := by omega
 have a2 : (n : Int) ≤ 9223372036854775807 := by omega
 by_cases hbig : left < n
 · have q : left - (n : Int) < 0 := by omega
   have HE := hid (show lft11 left (n + sumE es) = -1 by unfold lft11; rw [if_pos (by omega)])
   go_enter Tryz.func67, Tryz.ntmps67
   go_wp2
   go_ret
   exact ⟨by rw [HE.out]; rfl, Below.refl _ _⟩
 have q : ¬ left - (n : Int) < 0 := by omega
 have hn2 : n ≤ 1048576 := by omega
 obtain ⟨L, hL⟩ : ∃ L : Int, left - n = L := ⟨_, rfl⟩
 have hL0 : 0 ≤ L := by omega
 have hL1 : L ≤ 1048576 := by omega
 have HG := hid (show ∀ t : Nat, lft11 left (n + t) = lft11 L t by intro t; unfold lft11; by_cases hh : L < t; rw [if_pos (by omega), if_pos hh]; rw [if_neg (by omega), if_neg hh]; omega)
 have HL := hid hL
 go_enter Tryz.func67, Tryz.ntmps67
 go_wp2
 clear hL q
 go_loopw [1, 5] (fun l i wr => ∃ (k : Nat) (x : Int), k ≤ n ∧ i = .int .i64 k ∧ l = .int .i64 x ∧ 0 ≤ x ∧ x ≤ 1048576 ∧ Hid (x = L - sumE (es.take k)) ∧ Hid (Below w.heap.size w wr)) (fun _ i _ => n - (intOf i).toNat)
 case atStart => exact ⟨0, L, Nat.zero_le _, rfl, rfl, hL0, hL1, hid (by simp [sumE]), hid (Below.refl _ _)⟩
 case round =>
  obtain ⟨k, x, hk, rfl, rfl, hx0, hx1, HX, hB⟩ := hrel
  by_cases hlt : k < n
  · have hlt' : (k : Int) < (n : Int) := by omega
    have hk0 : (0 : Int) ≤ (k : Int) := by omega
    obtain ⟨b, off, a, c, rfl, bx0, r0, _, hmx, _⟩ := h.at (k := k) (by omega)
    unfold maxLen at hmx
    have bx := bx0.below hB.out qN
    have HT := hid (sumE_step es k (by omega))
    have HU := hid (sumE_take es (k + 1))
    generalize es.getD k en0 = e at *
    obtain ⟨K, N, F, Z, id⟩ := e
    simp only at bx hmx HT
    obtain ⟨m, hm⟩ : ∃ m, Z.length = m := ⟨_, rfl⟩
    rw [hm] at bx hmx HT
    obtain ⟨y, hy⟩ : ∃ y : Int, lft11 x m = y := ⟨_, rfl⟩
    have HY := hid hy
    have hy2 : (x < (m : Nat) ∧ y = -1) ∨ (0 ≤ y ∧ y ≤ 1048576 ∧ y = x - (m : Nat)) := by
     unfold lft11 at hy
     by_cases hh : x < (m : Nat)
     · rw [if_pos hh] at hy; exact .inl ⟨hh, hy.symm⟩
     · rw [if_neg hh] at hy; exact .inr ⟨by omega, by omega, hy.symm⟩
    have HY2 := hid hy2
    have hst := fun w a m => run_store Tryz.prog w a (.float .f64 F) m rfl
    obtain ⟨c0, c1, c2, c3, c4⟩ := bx
    clear r0 hm hy hy2 bx0
    go_wp2_with fail
    clear c0 c1 c2 c3 c4
    refine (szEntry K N F a m c id x (by omega) hx0 hx1 wr).mono ?_
    rintro e w1 ⟨rfl, b1⟩
    rw [HY.out]
    have HB := hid (hB.out.trans (b1.mono hB.out.size))
    clear b1
    rcases HY2.out with ⟨hbm, rfl⟩ | ⟨hy0, hy1, hye⟩
    · go_wp2_with fail
      go_ret
      refine ⟨?_, HB.out⟩
      rw [HG.out]
      unfold lft11
      rw [if_pos (by have := HT.out; have := HU.out; have := HX.out; omega)]
      rfl
    · have hy2 : ¬ y < 0 := by omega
      have HYE := hid hye
      clear hye HY2
      go_wp2_with fail
      go_roundw
      case rel => exact ⟨k + 1, y, by omega, by go_num, rfl, hy0, hy1, hid (by have := HT.out; have := HX.out; have := HYE.out; omega), HB⟩
      case measure => simp [intOf]; omega
  · have hlt' : ¬ (k : Int) < (n : Int) := by omega
    go_wp2
    go_ret
    refine ⟨?_, hB.out⟩
    rw [HG.out]
    have := HX.out
    rw [List.take_of_length_le (by omega)] at this
    unfold lft11
    rw [if_neg (by omega), this]
    rfl
set_option maxHeartbeats 6400000 in
theorem eqEntryS {ad ad' : Option Addr} {n : Nat} (cap cap' : Nat) {es : List En} {w : World} (h : ReadsE w ad es) (h' : ReadsE w ad' es) (hl : es.length = n) (hn : n ≤ 2097152) (hs : sumE es ≤ 2097152) :
 Calls Tryz.prog 91 #[.slice ad n cap, .slice ad' n cap'] w fun e w' => e = .returned (.bool true) ∧ Below w.heap.size w w' := by
 go_enter Tryz.func91, Tryz.ntmps91
 go_wp2
 go_loopw [5] (fun i wr => ∃ k : Nat, k ≤ n ∧ i = .int .i64 k ∧ Hid (Below w.heap.size w wr)) (fun i _ => n - (intOf i).toNat)
 case atStart => exact ⟨0, Nat.zero_le _, rfl, hid (Below.refl _ _)⟩
 case round =>
  obtain ⟨k, hk, rfl, hS⟩ := hrel
  by_cases hlt : k < n
  · have hlt' : (k : Int) < (n : Int) := by omega
    have hk0 : (0 : Int) ≤ (k : Int) := by omega
    obtain ⟨b, off, a1, c1, rfl, bx, r1, _, _, hf⟩ := h.at (k := k) (by omega)
    obtain ⟨b', off', a1', c1', rfl, bx', r1', _, _, _⟩ := h'.at (k := k) (by omega)
    have hlen := sumE_at es k (by omega)
    generalize es.getD k en0 = e at *
    obtain ⟨K, N, F, Z, id⟩ := e
    simp only at bx bx' r1 r1' hlen hf
    obtain ⟨zl, hzl⟩ : ∃ zl, Z.length = zl := ⟨_, rfl⟩
    rw [hzl] at bx bx' r1 r1' hlen
    have bD := (Still.drew wr).below wr.heap.size
    have hz2 : zl ≤ 2097152 := by omega
    have BX := hid ((bx.below hS.out qN).below bD qN)
    have BY := hid ((bx'.below hS.out qN).below bD qN)
    have R1 := hid ((r1.below hS.out qN).below bD qN)
    have R3 := hid ((r1'.below hS.out qN).below bD qN)
    have HF := hid hf
    clear bx bx' r1 r1' hlen hzl hf
    go_wp2
    replace hS := hid (hS.out.trans (bD.mono hS.out.size))
    clear bD
    refine region_K 99 (fun W => Box5 W b (off + k * 5) K N F (.slice a1 zl c1) id ∧ Box5 W b' (off' + k * 5) K N F (.slice a1' zl c1') id) (by kernel_rfl) ?_ (fun hHeld => ?_)
    · exact ⟨BX.out, BY.out⟩
    generalize wr.drew = v0 at *
    refine qT 0 rfl hHeld 17 rfl ?_ (by rintro W ⟨⟨x0, x1, x2, x3, x4⟩, ⟨y0, y1, y2, y3, y4⟩⟩; go_simp; try with_reducible rfl)
    refine qT 1 rfl hHeld 18 rfl ?_ (by rintro W ⟨⟨x0, x1, x2, x3, x4⟩, ⟨y0, y1, y2, y3, y4⟩⟩; go_simp; try with_reducible rfl)
    refine qT 2 rfl hHeld 19 rfl ?_ (by rintro W ⟨⟨x0, x1, x2, x3, x4⟩, ⟨y0, y1, y2, y3, y4⟩⟩; go_simp; try with_reducible rfl)
    refine qT 3 rfl hHeld 20 rfl ?_ (by rintro W ⟨⟨x0, x1, x2, x3, x4⟩, ⟨y0, y1, y2, y3, y4⟩⟩; go_simp; try with_reducible rfl)
    refine qT 4 rfl hHeld 21 rfl ?_ (by rintro W ⟨⟨x0, x1, x2, x3, x4⟩, ⟨y0, y1, y2, y3, y4⟩⟩; go_simp; try with_reducible rfl)
    refine qT 5 rfl hHeld 22 rfl ?_ (by rintro W ⟨⟨x0, x1, x2, x3, x4⟩, ⟨y0, y1, y2, y3, y4⟩⟩; go_simp; try with_reducible rfl)
    refine qT 6 rfl hHeld 23 rfl ?_ (by rintro W ⟨⟨x0, x1, x2, x3, x4⟩, ⟨y0, y1, y2, y3, y4⟩⟩; go_simp; try with_reducible rfl)
    refine qT 7 rfl hHeld 24 rfl ?_ (by rintro W ⟨⟨x0, x1, x2, x3, x4⟩, ⟨y0, y1, y2, y3, y4⟩⟩; go_simp; try with_reducible rfl)
    refine qS 8 rfl fun KP hK => ?_
    go_simp
    refine (eqEntry K N F c1 c1' id HF.out R1.out R3.out hz2).mono ?_
    rintro e u ⟨rfl, b1⟩
    have HS2 := hid (hS.out.trans (b1.mono hS.out.size))
    replace BX := hid (BX.out.below b1 qN)
    replace BY := hid (BY.out.below b1 qN)
    clear b1
    go_wp2_with fail
    clear hHeld
    refine hK.out _ _ ⟨BX.out, BY.out⟩ (fun hHeld => ?_)
    clear hK KP
    try simp only [qP]
    refine qS 9 rfl fun KP hK => ?_
    go_simp
    clear hHeld
    refine hK.out _ _ ⟨BX.out, BY.out⟩ (fun hHeld => ?_)
    clear hK KP
    try simp only [qP]
    refine anyK_done (by kernel_rfl) ?_ _
    clear hHeld
    go_wp2_with fail
    go_roundw
    case rel => exact ⟨k + 1, by omega, by go_num, HS2⟩
    case measure => simp [intOf]; omega
  · have hlt' : ¬ (k : Int) < (n : Int) := by omega
    go_wp2
    go_ret
    exact ⟨rfl, hS.out⟩
end Go.Proofs.YtlkoghdajpbffaaGreat
/- The program's ItemOk. -/

namespace Go.Proofs.YtlkoghdajpbffaaGreat
open Go.RowKit
set_option maxRecDepth 100000 in
set_option maxHeartbeats 1600000 in
theorem impl_ItemOk (K N : Int) (f : Nat) (ad : Option Addr) (n cap : Nat) (hf : f < 18446744073709551616) (hn : n ≤ 2097152) (w : World) :
 Calls Tryz.prog 81 #[.agg #[.int .i64 K, .int .i64 N, .float .f64 f, .slice ad n cap]] w fun e w' => e = .returned (.bool (okI K N f n)) ∧ Below w.heap.size w w' := by
 have hA : Below w.heap.size w (w.alloc (.cells #[.int .i64 K, .int .i64 N, .float .f64 f, .slice ad n cap] 37)) := (Below.refl _ _).alloc qN _
 have HA := hid hA
 clear hA
 by_cases h1 : K < 0
 · rw [show okI K N f n = false from decide_eq_false (by omega)]
   go_enter Tryz.func81, Tryz.ntmps81
   go_wp2
   go_ret
   exact ⟨rfl, HA.out⟩
 by_cases h2 : 3 < K
 · rw [show okI K N f n = false from decide_eq_false (by omega)]
   go_enter Tryz.func81, Tryz.ntmps81
   go_wp2
   go_ret
   exact ⟨rfl, HA.out⟩
 by_cases h3 : 40 < n
 · rw [show okI K N f n = false from decide_eq_false (by omega)]
   have h3' : (40 : Int) < (n : Int) := by omega
   go_enter Tryz.func81, Tryz.ntmps81
   go_wp2
   go_ret
   exact ⟨rfl, HA.out⟩
 have h3' : ¬ (40 : Int) < (n : Int) := by omega
 by_cases h4 : K ≠ 1 ∧ N ≠ 0
 · rw [show okI K N f n = false from decide_eq_false (by omega)]
   have q1 : (K == 1) = false := by simp [h4.1]
   have q2 : (N == 0) = false := by simp [h4.2]
   go_enter Tryz.func81, Tryz.ntmps81
   go_wp2
   go_ret
   exact ⟨rfl, HA.out⟩
 by_cases h5 : K = 1
 · subst h5
   by_cases h6 : f = 0
   · subst h6
     have hz : fbits 0 = 0 := by decide
     by_cases h7 : n = 0
     · subst h7
       rw [show okI 1 N 0 0 = true from decide_eq_true (by omega)]
       go_enter Tryz.func81, Tryz.ntmps81
       go_wp2_with fail
       refine (impl_FloatBits 0 hf _).mono ?_
       rintro e w1 ⟨rfl, rfl⟩
       rw [hz]
       go_wp2_with fail
       go_ret
       exact ⟨rfl, HA.out⟩
     · rw [show okI 1 N 0 n = false from decide_eq_false (by omega)]
       have q7 : ((n : Int) == 0) = false := beq_eq_false_iff_ne.2 (by omega)
       go_enter Tryz.func81, Tryz.ntmps81
       go_wp2_with fail
       refine (impl_FloatBits 0 hf _).mono ?_
       rintro e w1 ⟨rfl, rfl⟩
       rw [hz]
       go_wp2_with fail
       go_ret
       exact ⟨rfl, HA.out⟩
   · rw [show okI 1 N f n = false from decide_eq_false (by omega)]
     have q6 : ((fbits f : Int) == 0) = false := by have := fbits_ne f h6; simpa using this
     go_enter Tryz.func81, Tryz.ntmps81
     go_wp2_with fail
     refine (impl_FloatBits f hf _).mono ?_
     rintro e w1 ⟨rfl, rfl⟩
     go_wp2_with fail
     go_ret
     exact ⟨rfl, HA.out⟩
 have h8 : N = 0 := by omega
 subst h8
 have q1 : (K == 1) = false := by simp [h5]
 by_cases h9 : K = 2
 · subst h9
   by_cases h7 : n = 0
   · subst h7
     rw [show okI 2 0 f 0 = true from decide_eq_true (by omega)]
     go_enter Tryz.func81, Tryz.ntmps81
     go_wp2
     go_ret
     exact ⟨rfl, HA.out⟩
   · rw [show okI 2 0 f n = false from decide_eq_false (by omega)]
     have q7 : ((n : Int) == 0) = false := beq_eq_false_iff_ne.2 (by omega)
     go_enter Tryz.func81, Tryz.ntmps81
     go_wp2
     go_ret
     exact ⟨rfl, HA.out⟩
 have q9 : (K == 2) = false := by simp [h9]
 by_cases h6 : f = 0
 · subst h6
   have hz : fbits 0 = 0 := by decide
   by_cases h7 : K = 3
   · subst h7
     rw [show okI 3 0 0 n = true from decide_eq_true (by omega)]
     go_enter Tryz.func81, Tryz.ntmps81
     go_wp2_with fail
     refine (impl_FloatBits 0 hf _).mono ?_
     rintro e w1 ⟨rfl, rfl⟩
     rw [hz]
     go_wp2_with fail
     go_ret
     exact ⟨rfl, HA.out⟩
   · have h10 : K = 0 := by omega
     subst h10
     by_cases h7 : n = 0
     · subst h7
       rw [show okI 0 0 0 0 = true from decide_eq_true (by omega)]
       go_enter Tryz.func81, Tryz.ntmps81
       go_wp2_with fail
       refine (impl_FloatBits 0 hf _).mono ?_
       rintro e w1 ⟨rfl, rfl⟩
       rw [hz]
       go_wp2_with fail
       go_ret
       exact ⟨rfl, HA.out⟩
     · rw [show okI 0 0 0 n = false from decide_eq_false (by omega)]
       have q7 : ((n : Int) == 0) = false := beq_eq_false_iff_ne.2 (by omega)
       go_enter Tryz.func81, Tryz.ntmps81
       go_wp2_with fail
       refine (impl_FloatBits 0 hf _).mono ?_
       rintro e w1 ⟨rfl, rfl⟩
       rw [hz]
       go_wp2_with fail
       go_ret
       exact ⟨rfl, HA.out⟩
 · rw [show okI K 0 f n = false from decide_eq_false (by omega)]
   have q6 : ((fbits f : Int) == 0) = false := by have := fbits_ne f h6; simpa using this
   go_enter Tryz.func81, Tryz.ntmps81
   go_wp2_with fail
   refine (impl_FloatBits f hf _).mono ?_
   rintro e w1 ⟨rfl, rfl⟩
   go_wp2_with fail
   go_ret
   exact ⟨rfl, HA.out⟩
end Go.Proofs.YtlkoghdajpbffaaGreat
