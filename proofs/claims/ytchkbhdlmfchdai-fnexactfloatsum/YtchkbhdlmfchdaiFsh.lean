/- The contracts of the law package's toFloat64S and eqFloat64S, and the walk of FnExactFloatSum. Conditions: lengths of at most 2^20 where memory is made. -/
import Derived.Test.YtchkbhdlmfchdaiFll
import Derived.Test.YtchkbhdlmfchdaiFss
import Derived.Test.YtchkbhdlmfchdaiFsi
import Derived.Deep.QuietTactic
import Derived.BigQuiet
import Derived.Deep.RegionHeld3
namespace Go.Proofs.Ytchkbhdlmfchdai
open Go.RowKit

theorem Try.info22 : (Try.prog.info? 22).map (fun i => (i.zero, i.size, i.bytes)) = some (some (.float .f64 0), 1, 8) := by kernel_rfl

theorem fls_length (xs : List Nat) : (fls xs).length = xs.length := by simp [fls]

theorem set_take_f (xs : List Nat) (k : Nat) (hk : k < xs.length) (m : Nat) (hm : m = xs.length) :
    (fls (xs.take k) ++ List.replicate (m - k) (Value.float .f64 0)).set k (.float .f64 (xs.getD k 0)) = fls (xs.take (k + 1)) ++ List.replicate (m - (k + 1)) (Value.float .f64 0) := by
  subst hm
  apply List.ext_getElem?
  intro j
  simp only [fls, List.getElem?_set, List.getElem?_append, List.getElem?_map, List.getElem?_replicate, List.length_map, List.length_take, List.length_append, List.length_replicate, List.getElem?_take]
  by_cases h1 : k = j
  · subst h1
    simp [hk, show min (k + 1) xs.length = k + 1 by omega, show min k xs.length = k by omega, show xs.length - k ≠ 0 by omega]
  · by_cases h2 : j < k
    · simp [h1, show j < min k xs.length by omega, show j < min (k+1) xs.length by omega, show j < k + 1 by omega, h2]
    · by_cases h3 : j < xs.length
      · simp [h1, show ¬ j < min k xs.length by omega, show ¬ j < min (k+1) xs.length by omega, show j - min k xs.length < xs.length - k by omega, show j - min (k+1) xs.length < xs.length - (k+1) by omega]
      · simp [h1, show ¬ j < min k xs.length by omega, show ¬ j < min (k+1) xs.length by omega, show ¬ j - min k xs.length < xs.length - k by omega, show ¬ j - min (k+1) xs.length < xs.length - (k+1) by omega]

/-- A row of the call's own, read. -/
theorem ReadsF.own {w : World} {base : Nat} {v : Value} {n : Nat} {xs : List Nat} (h : w.ownsRow base 22 1 v n (fls xs)) (hbd : ∀ i, xs.getD i 0 < 18446744073709551616) :
    ∃ ad cap, v = .slice ad n cap ∧ ReadsF w ad n xs ∧ (ad = none ∨ ∃ g, ad = some ⟨g, 0, none⟩ ∧ base ≤ g ∧ g < w.heap.size) := by
  have hl : xs.length = n := by have := h.1; simpa [fls] using this
  rcases h.2 with ⟨rfl, rfl⟩ | ⟨g, cap, cur, rfl, hb, hg, hnc, hcm, hcs, htake⟩
  · exact ⟨none, 0, rfl, ⟨hl, .inl rfl, hbd⟩, .inl rfl⟩
  · refine ⟨_, cap, rfl, ⟨hl, .inr ⟨g, 0, rfl, fun i hi => ?_⟩, hbd⟩, .inr ⟨g, rfl, hb, (Array.getElem?_eq_some_iff.1 hg).1⟩⟩
    rw [Nat.zero_add, h.cellAt i (by omega)]
    simp [fls, hl, hi]

set_option maxHeartbeats 800000 in
theorem toF_pos (b off n cap : Nat) (xs : List Nat) (w : World) (hz : xs.length = n) (hn : n ≤ 2097152) (hb : b < w.heap.size)
    (hc : ∀ i, i < n → w.cell? ⟨b, off + i, none⟩ = some (.float .f64 (xs.getD i 0))) :
    Calls Try.prog 21 #[.slice (some ⟨b, off, none⟩) n cap] w fun e w' =>
      e = .returned (.slice (some ⟨w.heap.size, 0, none⟩) n n) ∧ w'.ownsRow w.heap.size 22 1 (.slice (some ⟨w.heap.size, 0, none⟩) n n) n (fls xs) ∧ Below w.heap.size w w' := by
  obtain ⟨i0, hi, hz0, hz1, hz2⟩ := info_parts Try.info22
  go_enter Try.func21, Try.ntmps21
  go_wp2_with (at_make; refine wpList_make_full _ rfl _ _ 32 rfl w.heap.size 22 i0 (.float .f64 0) 1 Try.underlying32 hi hz0 hz1 _ _ _ _ n rfl rfl (by omega) (by omega) ?b2 ?b3 (Nat.le_refl _) ?_)
  case b2 => rw [hz2]; omega
  case b3 => unfold maxLen; omega
  intro w0 hown0 hgrow0
  go_wp2
  go_loopw [4] (fun i wr => ∃ k : Nat, k ≤ n ∧ i = .int .i64 k ∧ wr.ownsRow w.heap.size 22 1 (.slice (some ⟨w.heap.size, 0, none⟩) n n) n (fls (xs.take k) ++ List.replicate (n - k) (Value.float .f64 0)) ∧ Below w.heap.size w wr)
    (fun i _ => n - (intOf i).toNat)
  case atStart =>
    refine ⟨0, Nat.zero_le _, rfl, ?_, (Below.refl _ _).grown hgrow0 (Nat.le_refl _) (fun k h => by cases h)⟩
    rw [toList_madeCells_one] at hown0
    simpa [fls] using hown0
  case round =>
    obtain ⟨k, hk, rfl, hown, hnx⟩ := hrel
    by_cases hlt : k < n
    · have hcx : wr.cell? ⟨b, off + k, none⟩ = some (.float .f64 (xs.getD k 0)) := (hnx.cell (by exact hb)).trans (hc k hlt)
      have hcy : wr.cell? ⟨w.heap.size, k, none⟩ = some (.float .f64 0) := by
        rw [hown.cellAt k (by omega), List.getElem?_append_right (by simp [fls]; omega)]
        simp [fls, hz, Nat.min_eq_left hk, show 0 < n - k by omega]
      have hfr : wr.frozen? ⟨w.heap.size, k, none⟩ = false := hown.frozenAt k
      have R := hown.stored k (.float .f64 (xs.getD k 0))
      rw [set_take_f xs k (by omega) n hz.symm] at R
      have R1 := hid R
      clear R hown
      generalize xs.getD k 0 = c at hcx R1
      have hst := fun m => run_store Try.prog wr ⟨w.heap.size, k, none⟩ (.float .f64 c) m rfl
      go_wp2
      go_roundw
      case rel => exact ⟨k + 1, by omega, by go_num, by simpa using R1.out.1, hnx.setCell (Nat.le_refl _) _⟩
      case measure => simp [intOf]; omega
    · go_wp2
      go_ret
      have hkn : k = n := by omega
      subst hkn
      refine ⟨rfl, ?_, hnx⟩
      rw [List.take_of_length_le (by omega)] at hown
      simpa using hown

set_option maxHeartbeats 800000 in
theorem toF_zero (ad : Option Addr) (cap : Nat) (w : World) :
    Calls Try.prog 21 #[.slice ad 0 cap] w fun e w' =>
      e = .returned (.slice (some ⟨w.heap.size, 0, none⟩) 0 0) ∧ w'.ownsRow w.heap.size 22 1 (.slice (some ⟨w.heap.size, 0, none⟩) 0 0) 0 (fls []) ∧ Below w.heap.size w w' := by
  obtain ⟨i0, hi, hz0, hz1, hz2⟩ := info_parts Try.info22
  go_enter Try.func21, Try.ntmps21
  go_wp2_with (at_make; refine wpList_make_full _ rfl _ _ 32 rfl w.heap.size 22 i0 (.float .f64 0) 1 Try.underlying32 hi hz0 hz1 _ _ _ _ 0 rfl rfl (by omega) (by omega) ?b2 ?b3 (Nat.le_refl _) ?_)
  case b2 => rw [hz2]; omega
  case b3 => unfold maxLen; omega
  intro w0 hown0 hgrow0
  have H0 := hid hown0
  clear hown0
  go_wp2
  go_loopw [4] (fun i wr => i = .int .i64 (0 : Nat) ∧ wr = w0) (fun i _ => 0)
  case atStart => exact ⟨rfl, rfl⟩
  case round =>
    obtain ⟨rfl, rfl⟩ := hrel
    go_wp2
    go_ret
    refine ⟨rfl, ?_, (Below.refl _ _).grown hgrow0 (Nat.le_refl _) (fun k h => by cases h)⟩
    have h := H0.out
    simpa [fls, madeCells] using h

theorem toF_any {ad : Option Addr} {n : Nat} (cap : Nat) {xs : List Nat} {w : World} (h : ReadsF w ad n xs) (hn : n ≤ 2097152) :
    Calls Try.prog 21 #[.slice ad n cap] w fun e w' =>
      e = .returned (.slice (some ⟨w.heap.size, 0, none⟩) n n) ∧ w'.ownsRow w.heap.size 22 1 (.slice (some ⟨w.heap.size, 0, none⟩) n n) n (fls xs) ∧ Below w.heap.size w w' := by
  obtain ⟨hl, hc, _⟩ := h
  by_cases h0 : n = 0
  · subst h0
    obtain rfl : xs = [] := List.eq_nil_of_length_eq_zero hl
    exact toF_zero ad cap w
  · rcases hc with h | ⟨b, off, rfl, hc⟩
    · exact absurd h h0
    · exact toF_pos b off n cap xs w hl hn (by have := World.block_lt_of_cell? w _ (hc 0 (by omega)); exact this) hc

set_option maxRecDepth 100000 in
set_option maxHeartbeats 1600000 in
theorem eqF_pos (b off cap b' off' cap' n : Nat) (xs : List Nat) (w : World) (hn : n ≤ 2097152) (hbd : ∀ i, xs.getD i 0 < 18446744073709551616)
    (hc : ∀ i, i < n → w.cell? ⟨b, off + i, none⟩ = some (.float .f64 (xs.getD i 0))) (hc' : ∀ i, i < n → w.cell? ⟨b', off' + i, none⟩ = some (.float .f64 (xs.getD i 0))) :
    Calls Try.prog 23 #[.slice (some ⟨b, off, none⟩) n cap, .slice (some ⟨b', off', none⟩) n cap'] w fun e w' => e = .returned (.bool true) ∧ Still w w' := by
  go_enter Try.func23, Try.ntmps23
  go_wp2
  go_loopw [5] (fun i wr => ∃ k m : Nat, k ≤ n ∧ i = .int .i64 k ∧ wr = w.drewN m) (fun i _ => n - (intOf i).toNat)
  case atStart => exact ⟨0, 0, Nat.zero_le _, rfl, rfl⟩
  case round =>
    obtain ⟨k, m, hk, rfl, rfl⟩ := hrel
    by_cases hlt : k < n
    · have h1 := hc k hlt
      have h2 := hc' k hlt
      have h3 := hid (hbd k)
      clear hc hc' hbd
      generalize xs.getD k 0 = c at h1 h2 h3
      have hlt' : (k : Int) < (n : Int) := by omega
      have hk0 : (0 : Int) ≤ (k : Int) := by omega
      go_wp2
      go_region_held3 (fun W => W.cell? ⟨b, off + k, none⟩ = some (.float .f64 c) ∧ W.cell? ⟨b', off' + k, none⟩ = some (.float .f64 c)) (exact ⟨by simpa using h1, by simpa using h2⟩) (first
        | (go_at_call 13; refine (sameFloat_walk c c h3.out h3.out (Same.refl c) _).mono ?_; rintro e w1 ⟨rfl, rfl⟩))
      go_wp2
      go_roundw
      case rel => exact ⟨k + 1, _, by omega, by go_num, rfl⟩
      case measure => simp [intOf]; omega
    · go_wp2
      go_ret
      exact ⟨rfl, Still.drewN _ _⟩

set_option maxHeartbeats 800000 in
theorem eqF_zero (ad ad' : Option Addr) (cap cap' : Nat) (w : World) :
    Calls Try.prog 23 #[.slice ad 0 cap, .slice ad' 0 cap'] w fun e w' => e = .returned (.bool true) ∧ Still w w' := by
  go_enter Try.func23, Try.ntmps23
  go_wp2
  go_loopw [5] (fun i wr => i = .int .i64 (0 : Nat) ∧ wr = w) (fun _ _ => 0)
  case atStart => exact ⟨rfl, rfl⟩
  case round =>
    obtain ⟨rfl, rfl⟩ := hrel
    go_wp2
    go_ret
    exact ⟨rfl, Still.refl _⟩

theorem eqF_any {ad ad' : Option Addr} {n : Nat} (cap cap' : Nat) {xs : List Nat} {w : World} (h : ReadsF w ad n xs) (h' : ReadsF w ad' n xs) (hn : n ≤ 2097152) :
    Calls Try.prog 23 #[.slice ad n cap, .slice ad' n cap'] w fun e w' => e = .returned (.bool true) ∧ Still w w' := by
  have hbd := h.bd
  obtain ⟨hl, hc, _⟩ := h
  obtain ⟨hl', hc', _⟩ := h'
  by_cases h0 : n = 0
  · subst h0; exact eqF_zero ad ad' cap cap' w
  · rcases hc with h | ⟨b, off, rfl, hc⟩
    · exact absurd h h0
    · rcases hc' with h | ⟨b', off', rfl, hc'⟩
      · exact absurd h h0
      · exact eqF_pos b off cap b' off' cap' n xs w hn hbd hc hc'

set_option maxHeartbeats 1600000 in
theorem exactFloatSum {ad : Option Addr} {n : Nat} (cap : Nat) {xs : List Nat} {w : World} (h : ReadsF w ad n xs) (hm : n ≤ maxLen) :
    Calls Try.prog 8 #[.slice ad n cap] w fun e w' => e = .returned (.bool true) ∧ Below w.heap.size w w' := by
  unfold maxLen at hm
  by_cases hbig : 1048576 < n
  · go_enter Try.func8, Try.ntmps8
    go_wp2_with fail
    go_ret
    exact ⟨rfl, Below.refl _ _⟩
  have hn : n ≤ 1048576 := by omega
  go_enter Try.func8, Try.ntmps8
  go_wp2_with fail
  refine (toF_any cap h (by omega)).mono ?_
  rintro e w1 ⟨rfl, o1, b1⟩
  obtain ⟨_, _, e1, r1, _⟩ := ReadsF.own o1 h.bd
  obtain ⟨rfl, _, rfl⟩ := Value.slice.inj e1
  clear e1 o1
  go_wp2_with fail
  refine (spec_FloatSum n r1 (by omega)).mono ?_
  rintro e w2 ⟨y2, rfl, hy2, S2, st2⟩
  have h1 := (h.below b1 (Nat.le_refl _)).below (st2.below _) (Nat.le_refl _)
  go_wp2_with fail
  refine (toF_any cap h1 (by omega)).mono ?_
  rintro e w3 ⟨rfl, o3, b3⟩
  obtain ⟨_, _, e1, r3, _⟩ := ReadsF.own o3 h.bd
  obtain ⟨rfl, _, rfl⟩ := Value.slice.inj e1
  clear e1 o3
  go_wp2_with fail
  refine (impl_FloatSum n r3 (by omega)).mono ?_
  rintro e w4 ⟨y4, rfl, hy4, S4, st4⟩
  have b4 := st4.below w3.heap.size
  have h3 := (h1.below b3 (Nat.le_refl _)).below b4 (Nat.le_refl _)
  have r3 := r3.below b4 (Nat.le_refl _)
  go_wp2_with fail
  refine (sameFloat_walk y4 y2 hy4 hy2 (S4.out.symm.trans S2.out) _).mono ?_
  rintro e w5 ⟨rfl, rfl⟩
  go_wp2_with fail
  refine (toF_any cap h3 (by omega)).mono ?_
  rintro e w6 ⟨rfl, o5, b5⟩
  obtain ⟨_, _, e1, r5, _⟩ := ReadsF.own o5 h.bd
  obtain ⟨rfl, _, rfl⟩ := Value.slice.inj e1
  clear e1 o5
  have r3' := r3.below b5 (Nat.le_refl _)
  go_wp2_with fail
  refine (eqF_any n n r3' r5 (by omega)).mono ?_
  rintro e w7 ⟨rfl, s6⟩
  go_wp2_with fail
  go_ret
  have z1 := b1.size
  have z2 := (st2.below w1.heap.size).size
  have z3 := b3.size
  have z4 := b4.size
  exact ⟨rfl, ((((b1.trans ((st2.below _).mono (Nat.le_refl _))).trans (b3.mono (by omega))).trans (b4.mono (by omega))).trans (b5.mono (by omega))).trans (s6.below _)⟩

/-- A float, opened. -/
theorem trod_float {H : Type} {enc : TypeId × Value → H} {P : Program} {w : World} {base : Nat} {spare : Nat → Bool} {held : Bool} {t : TypeId} {fuel : Nat} {cs : List Value} {x : DataW H × List MemPlace}
    (ht : P.underlying t = some (.float .f64)) (h : DataW.trod enc P w base spare held fuel t cs = some x) : ∃ b, cs = [.float .f64 b] ∧ b < 18446744073709551616 := by
  cases fuel with
  | zero => simp [DataW.trod] at h
  | succ n =>
    unfold DataW.trod at h
    rw [ht] at h
    split at h <;> simp_all
    rename_i heq
    cases heq
    simpa [Lit.wf] using h.1.2

/-- A slice of floats that came in, read. -/
theorem readsF_in {w : World} {a : Addr} {len m : Nat} {V : Nat → Value} (hl : len ≤ m) (hV : ∀ i, i < m → w.cell? (a.add i) = some (V i) ∧ ∃ b, V i = .float .f64 b ∧ b < 18446744073709551616) :
    ∃ xs, ReadsF w (some a) len xs := by
  have hx : ∀ i, ∃ b : Nat, b < 18446744073709551616 ∧ (i < m → w.cell? (a.add i) = some (.float .f64 b)) := fun i => by
    by_cases hi : i < m
    · obtain ⟨h1, b, h2, h3⟩ := hV i hi
      exact ⟨b, h3, fun _ => by rw [h1, h2]⟩
    · exact ⟨0, by omega, fun h => absurd h hi⟩
  obtain ⟨f, hf⟩ : ∃ f : Nat → Nat, ∀ i, f i < 18446744073709551616 ∧ (i < m → w.cell? (a.add i) = some (.float .f64 (f i))) := ⟨fun i => Classical.choose (hx i), fun i => Classical.choose_spec (hx i)⟩
  refine ⟨(List.range len).map f, by simp, ?_, fun i => ?_⟩
  · by_cases h0 : len = 0
    · exact .inl h0
    · have hs : a.spot = none := by
        have := (hf 0).2 (by omega)
        rw [show a.add 0 = a by simp [Addr.add]] at this
        exact World.cell?_spot this
      obtain ⟨b, off, sp⟩ := a
      simp only at hs
      subst hs
      refine .inr ⟨b, off, rfl, fun i hi => ?_⟩
      have := (hf i).2 (by omega)
      have e : (⟨b, off, none⟩ : Addr).add i = ⟨b, off + i, none⟩ := by unfold Addr.add; split <;> simp_all
      rw [e] at this
      rw [this]
      simp [List.getD, hi]
  · by_cases hi : i < len
    · simp only [List.getD, List.getElem?_map, List.getElem?_range hi, Option.map_some, Option.getD_some]
      exact (hf i).1
    · simp [List.getD, hi]
end Go.Proofs.Ytchkbhdlmfchdai
