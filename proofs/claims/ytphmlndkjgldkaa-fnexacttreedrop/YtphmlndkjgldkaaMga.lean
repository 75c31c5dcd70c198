/- Texts of this proof in one: Base Help Flo Flx Flv Fli Flw Flb Flq Flf Fsa Fll It1 It2 Al It3 It4 It5 It6 Dk Oty Jt Pa Pb Pc Rk Rk2 Rk3 Ps. -/
import Derived.WalkKit
import Derived.WalkSpells
import Derived.Laws.CopyOwn
import Derived.Deep.Draws
import Derived.OpenShut
import Derived.Test.YtphmlndkjgldkaaRows
import Derived.Deep.QuietTactic
import Derived.BigQuiet
import Derived.Laws.FloatArith
import Derived.Test.YtphmlndkjgldkaaChecked
import Derived.WalkLawsBesides
import Derived.Laws.BitsAllLaws
import Derived.Laws.Externs
import Derived.KernelRfl
import Derived.Laws.Tables
import Derived.Laws.AppendOwnNone
import Derived.Deep.RegionHeld3
import Derived.Deep.SlicePairs
import Derived.Deep.Matrix
import Derived.Lib.SmallJoins
import Derived.Deep.AppendLies
/- Plain notions for the proofs of this seat: what a slice of bytes reads as, in a world; how that is kept. No statement of its own; no conditions. -/





namespace Go.Proofs.Ytphmlndkjgldkaa
open Go.RowKit
def bys (zs : List Int) : List Value := zs.map (Value.int .u8)
theorem bys_length (zs : List Int) : (bys zs).length = zs.length := by simp [bys]
structure Reads (w : World) (ad : Option Addr) (n : Nat) (zs : List Int) : Prop where
 len : zs.length = n
 cells : n = 0 ∨ ∃ b off, ad = some ⟨b, off, none⟩ ∧ ∀ i, i < n → w.cell? ⟨b, off + i, none⟩ = some (.int .u8 (zs.getD i 0))
 bd : ∀ i, 0 ≤ zs.getD i 0 ∧ zs.getD i 0 ≤ 255
theorem Reads.below {w w' : World} {ad : Option Addr} {n : Nat} {zs : List Int} (h : Reads w ad n zs) {B : Nat} (hb : Below B w w') (hB : w.heap.size ≤ B) : Reads w' ad n zs := by
 refine ⟨h.len, ?_, h.bd⟩
 rcases h.cells with h0 | ⟨b, off, rfl, hc⟩
 · exact .inl h0
 · refine .inr ⟨b, off, rfl, fun i hi => ?_⟩
   have hc' := hc i hi
   have := World.block_lt_of_cell? w _ hc'
   rw [hb.cell (p := ⟨b, off + i, none⟩) (by simp at this ⊢; omega)]
   exact hc'
theorem Reads.own {w : World} {base : Nat} {v : Value} {n : Nat} {zs : List Int} (h : w.ownsRow base 5 1 v n (bys zs)) (hbd : ∀ i, 0 ≤ zs.getD i 0 ∧ zs.getD i 0 ≤ 255) :
 ∃ ad cap, v = .slice ad n cap ∧ Reads w ad n zs ∧ (ad = none ∨ ∃ g, ad = some ⟨g, 0, none⟩ ∧ base ≤ g ∧ g < w.heap.size) := by
 have hl : zs.length = n := by have := h.1; simpa [bys] using this
 rcases h.2 with ⟨rfl, rfl⟩ | ⟨g, cap, cur, rfl, hb, hg, hnc, hcm, hcs, htake⟩
 · exact ⟨none, 0, rfl, ⟨hl, .inl rfl, hbd⟩, .inl rfl⟩
 · refine ⟨_, cap, rfl, ⟨hl, .inr ⟨g, 0, rfl, fun i hi => ?_⟩, hbd⟩, .inr ⟨g, rfl, hb, (Array.getElem?_eq_some_iff.1 hg).1⟩⟩
   rw [Nat.zero_add, h.cellAt i (by omega)]
   simp [bys, hl, hi]
theorem hid {p : Prop} (h : p) : Hid p := h
structure Still (w w' : World) : Prop where
 os : w'.os = w.os
 tape : w'.tape = w.tape
 output : w'.output = w.output
 heap : w'.heap = w.heap
theorem Still.refl (w : World) : Still w w := ⟨rfl, rfl, rfl, rfl⟩
theorem Still.trans {a b c : World} (h : Still a b) (k : Still b c) : Still a c := ⟨k.os.trans h.os, k.tape.trans h.tape, k.output.trans h.output, k.heap.trans h.heap⟩
theorem Still.drewN (w : World) (n : Nat) : Still w (w.drewN n) := ⟨rfl, rfl, rfl, rfl⟩
theorem Still.drew (w : World) : Still w w.drew := ⟨rfl, rfl, rfl, rfl⟩
theorem Still.below {w w' : World} (h : Still w w') (B : Nat) : Below B w w' := ⟨h.os, h.tape, h.output, by rw [h.heap]; exact Nat.le_refl _, fun k _ => by rw [h.heap]⟩
theorem Still.size {w w' : World} (h : Still w w') : w'.heap.size = w.heap.size := by rw [h.heap]
theorem Still.cell {w w' : World} (h : Still w w') (a : Addr) : w'.cell? a = w.cell? a := by simp [World.cell?, h.heap]
theorem owns_below {w w' : World} {B : Nat} (hb : Below B w w') (hB : w.heap.size ≤ B) {base : Nat} {e : TypeId} {s : Nat} {v : Value} {n : Nat} {xs : List Value} (ho : w.ownsRow base e s v n xs) : w'.ownsRow base e s v n xs := by
 refine ⟨ho.1, ?_⟩
 rcases ho.2 with hn | ⟨g, cap, cur, rfl, hbg, hg, rest⟩
 · exact .inl hn
 · exact .inr ⟨g, cap, cur, rfl, hbg, by rw [hb.block g (by have := (Array.getElem?_eq_some_iff.1 hg).1; omega)]; exact hg, rest⟩
def marks (k : Int) (n : Nat) : List Int := (List.range n).map fun i => (k + (i : Nat)) % 256
theorem marks_length (k : Int) (n : Nat) : (marks k n).length = n := by simp [marks]
theorem marks_succ (k : Int) (n : Nat) : marks k (n + 1) = marks k n ++ [(k + (n : Nat)) % 256] := by simp [marks, List.range_succ]
theorem marks_at (k : Int) (n i : Nat) (h : i < n) : (marks k n).getD i 0 = (k + (i : Nat)) % 256 := by simp [marks, h]
theorem marks_bd (k : Int) (n i : Nat) : 0 ≤ (marks k n).getD i 0 ∧ (marks k n).getD i 0 ≤ 255 := by
 by_cases h : i < n
 · rw [marks_at k n i h]; omega
 · simp [marks, h]
theorem set_mid (A : List Value) (X : List Value) (j : Nat) (c : Value) (hA : A.length = j) (hX : j < X.length) : (A ++ X.drop j).set j c = (A ++ [c]) ++ X.drop (j + 1) := by
 rw [List.set_append_right _ _ (by omega), hA, Nat.sub_self, List.drop_eq_getElem_cons hX, List.set_cons_zero]; simp
theorem grown_trans {a b c : World} {row : Option Nat} (h : a.grownBy b row) (k : b.grownBy c row) : a.grownBy c row :=
 ⟨k.os.trans h.os, k.tape.trans h.tape, k.output.trans h.output, Nat.le_trans h.size k.size, fun i hi hr => (k.block i (Nat.lt_of_lt_of_le hi h.size) hr).trans (h.block i hi hr)⟩
theorem grown_refl (w : World) (row : Option Nat) : w.grownBy w row := ⟨rfl, rfl, rfl, Nat.le_refl _, fun _ _ _ => rfl⟩
theorem bys_append (a b : List Int) : bys (a ++ b) = bys a ++ bys b := by simp [bys]
theorem reads_in {w : World} {a : Option Addr} {len cap : Nat} {zs : List Int}
 (h : (a = none ∧ len = 0 ∧ cap = 0 ∧ zs = []) ∨ ∃ x, a = some x ∧ len ≤ cap ∧ cap ≤ maxLen ∧ zs.length = cap ∧ (∀ i, i < zs.length → w.cell? (x.add i) = some (.int .u8 (zs.getD i 0))) ∧ ∀ n ∈ zs, (Lit.int .u8 n).wf = true) :
 Reads w a len (zs.take len) := by
 rcases h with ⟨rfl, rfl, rfl, rfl⟩ | ⟨x, rfl, hlc, hm, hz, hc, hwf⟩
 · exact ⟨rfl, .inl rfl, by simp⟩
 · refine ⟨by simp; omega, ?_, ?_⟩
   · by_cases h0 : len = 0
     · exact .inl h0
     · obtain ⟨b, off, rfl, hc'⟩ := ints_at hc (by omega)
       refine .inr ⟨b, off, rfl, fun i hi => ?_⟩
       rw [hc' i (by omega)]
       simp [hi]
   · intro i
     by_cases hi : i < (zs.take len).length
     · rw [List.getD_eq_getElem?_getD, List.getElem?_eq_getElem hi]
       exact bounds_u8 (hwf _ (List.mem_of_mem_take (List.getElem_mem hi)))
     · rw [List.getD_eq_getElem?_getD, List.getElem?_eq_none (by omega)]; simp
theorem len_in {w : World} {a : Option Addr} {len cap : Nat} {zs : List Int} {k : IntKind}
 (h : (a = none ∧ len = 0 ∧ cap = 0 ∧ zs = []) ∨ ∃ x, a = some x ∧ len ≤ cap ∧ cap ≤ maxLen ∧ zs.length = cap ∧ (∀ i, i < zs.length → w.cell? (x.add i) = some (.int k (zs.getD i 0))) ∧ ∀ n ∈ zs, (Lit.int k n).wf = true) :
 len ≤ maxLen := by
 rcases h with ⟨_, rfl, _⟩ | ⟨_, _, h1, h2, _⟩
 · exact Nat.zero_le _
 · exact Nat.le_trans h1 h2
theorem Reads.news {w : World} {a : Addr} {n : Nat} {zs : List Int} (h : Reads w (some a) n zs) : ∀ j u, (bys zs)[j]? = some u → w.cell? (a.add j) = some u := by
 intro j u hu
 have hj : j < zs.length := by
  have := (List.getElem?_eq_some_iff.1 hu).1
  simpa [bys] using this
 rcases h.cells with h0 | ⟨b, off, hb, hc⟩
 · have := h.len; omega
 · cases hb
   have e : (⟨b, off, none⟩ : Addr).add j = ⟨b, off + j, none⟩ := by unfold Addr.add; split <;> simp_all
   rw [e, hc j (by have := h.len; omega)]
   simpa [bys, hj] using hu
theorem bys_one (zs : List Int) : ∀ u ∈ bys zs, u.oneCell' = true := by
 intro u hu
 simp only [bys, List.mem_map] at hu
 obtain ⟨x, _, rfl⟩ := hu
 rfl
end Go.Proofs.Ytphmlndkjgldkaa
/- The contracts of the law package's helpers: toByteS, eqByteS, markByteS, heldByteS. Conditions: lengths of at most 2^21 where memory is made or counted. -/




namespace Go.Proofs.Ytphmlndkjgldkaa
open Go.RowKit
set_option maxRecDepth 100000
theorem Try.info5 : (Try.prog.info? 5).map (fun i => (i.zero, i.size, i.bytes)) = some (some (.int .u8 0), 1, 1) := by kernel_rfl
theorem set_take_step (zs : List Int) (k : Nat) (hk : k < zs.length) (m : Nat) (hm : m = zs.length) :
 (bys (zs.take k) ++ List.replicate (m - k) (Value.int .u8 0)).set k (.int .u8 (zs.getD k 0)) = bys (zs.take (k + 1)) ++ List.replicate (m - (k + 1)) (Value.int .u8 0) := by
 subst hm
 apply List.ext_getElem?
 intro j
 simp only [bys, List.getElem?_set, List.getElem?_append, List.getElem?_map, List.getElem?_replicate, List.length_map, List.length_take, List.length_append, List.length_replicate, List.getElem?_take]
 by_cases h1 : k = j
 · subst h1
   simp [hk, show min (k + 1) zs.length = k + 1 by omega, show min k zs.length = k by omega, show zs.length - k ≠ 0 by omega]
 · by_cases h2 : j < k
   · simp [h1, show j < min k zs.length by omega, show j < min (k+1) zs.length by omega, show j < k + 1 by omega, h2]
   · by_cases h3 : j < zs.length
     · simp [h1, show ¬ j < min k zs.length by omega, show ¬ j < min (k+1) zs.length by omega, show j - min k zs.length < zs.length - k by omega, show j - min (k+1) zs.length < zs.length - (k+1) by omega]
     · simp [h1, show ¬ j < min k zs.length by omega, show ¬ j < min (k+1) zs.length by omega, show ¬ j - min k zs.length < zs.length - k by omega, show ¬ j - min (k+1) zs.length < zs.length - (k+1) by omega]
set_option maxHeartbeats 800000 in
theorem toByteS_pos (b off n cap : Nat) (zs : List Int) (w : World) (hz : zs.length = n) (hn : n ≤ 2097152) (hb : b < w.heap.size)
 (hc : ∀ i, i < n → w.cell? ⟨b, off + i, none⟩ = some (.int .u8 (zs.getD i 0))) :
 Calls Try.prog 75 #[.slice (some ⟨b, off, none⟩) n cap] w fun e w' =>
  e = .returned (.slice (some ⟨w.heap.size, 0, none⟩) n n) ∧ w'.ownsRow w.heap.size 5 1 (.slice (some ⟨w.heap.size, 0, none⟩) n n) n (bys zs) ∧ Below w.heap.size w w' := by
 obtain ⟨i0, hi, hz0, hz1, hz2⟩ := info_parts Try.info5
 go_enter Try.func75, Try.ntmps75
 go_wp2_with (at_make; refine wpList_make_full _ rfl _ _ 22 rfl w.heap.size 5 i0 (.int .u8 0) 1 Try.underlying22 hi hz0 hz1 _ _ _ _ n rfl rfl (by omega) (by omega) ?b2 ?b3 (Nat.le_refl _) ?_)
 case b2 => rw [hz2]; omega
 case b3 => unfold maxLen; omega
 intro w0 hown0 hgrow0
 go_wp2
 go_loopw [4] (fun i wr => ∃ k : Nat, k ≤ n ∧ i = .int .i64 k ∧ wr.ownsRow w.heap.size 5 1 (.slice (some ⟨w.heap.size, 0, none⟩) n n) n (bys (zs.take k) ++ List.replicate (n - k) (Value.int .u8 0)) ∧ Below w.heap.size w wr)
  (fun i _ => n - (intOf i).toNat)
 case atStart =>
  refine ⟨0, Nat.zero_le _, rfl, ?_, (Below.refl _ _).grown hgrow0 (Nat.le_refl _) (fun k h => by cases h)⟩
  rw [toList_madeCells_one] at hown0
  simpa [bys] using hown0
 case round =>
  obtain ⟨k, hk, rfl, hown, hnx⟩ := hrel
  by_cases hlt : k < n
  · have hcx : wr.cell? ⟨b, off + k, none⟩ = some (.int .u8 (zs.getD k 0)) := (hnx.cell (by exact hb)).trans (hc k hlt)
    have hcy : wr.cell? ⟨w.heap.size, k, none⟩ = some (.int .u8 0) := by
     rw [hown.cellAt k (by omega), List.getElem?_append_right (by simp [bys]; omega)]
     simp [bys, hz, Nat.min_eq_left hk, show 0 < n - k by omega]
    have hfr : wr.frozen? ⟨w.heap.size, k, none⟩ = false := hown.frozenAt k
    have R := hown.stored k (.int .u8 (zs.getD k 0))
    rw [set_take_step zs k (by omega) n hz.symm] at R
    have R1 := hid R
    clear R hown
    generalize zs.getD k 0 = c at hcx R1
    go_wp2
    go_roundw
    case rel => exact ⟨k + 1, by omega, by go_num, by simpa using R1.out.1, hnx.setCell (Nat.le_refl _) _⟩
    case measure => simp [intOf]; omega
  · go_wp2
    go_ret
    have hkn : k = n := by omega
    subst hkn
    refine ⟨rfl, ?_, hnx⟩
    rw [List.take_of_length_le (by omega)] at hown
    simpa using hown
set_option maxHeartbeats 800000 in
theorem toByteS_zero (ad : Option Addr) (cap : Nat) (w : World) :
 Calls Try.prog 75 #[.slice ad 0 cap] w fun e w' =>
  e = .returned (.slice (some ⟨w.heap.size, 0, none⟩) 0 0) ∧ w'.ownsRow w.heap.size 5 1 (.slice (some ⟨w.heap.size, 0, none⟩) 0 0) 0 (bys []) ∧ Below w.heap.size w w' := by
 obtain ⟨i0, hi, hz0, hz1, hz2⟩ := info_parts Try.info5
 go_enter Try.func75, Try.ntmps75
 go_wp2_with (at_make; refine wpList_make_full _ rfl _ _ 22 rfl w.heap.size 5 i0 (.int .u8 0) 1 Try.underlying22 hi hz0 hz1 _ _ _ _ 0 rfl rfl (by omega) (by omega) ?b2 ?b3 (Nat.le_refl _) ?_)
 case b2 => rw [hz2]; omega
 case b3 => unfold maxLen; omega
 intro w0 hown0 hgrow0
 have H0 := hid hown0
 clear hown0
 go_wp2
 go_loopw [4] (fun i wr => i = .int .i64 (0 : Nat) ∧ wr = w0) (fun i _ => 0)
 case atStart => exact ⟨rfl, rfl⟩
 case round =>
  obtain ⟨rfl, rfl⟩ := hrel
  go_wp2
  go_ret
  refine ⟨rfl, ?_, (Below.refl _ _).grown hgrow0 (Nat.le_refl _) (fun k h => by cases h)⟩
  have h := H0.out
  simpa [bys, madeCells] using h
theorem toByteS_any {ad : Option Addr} {n : Nat} (cap : Nat) {zs : List Int} {w : World} (h : Reads w ad n zs) (hn : n ≤ 2097152) :
 Calls Try.prog 75 #[.slice ad n cap] w fun e w' =>
  e = .returned (.slice (some ⟨w.heap.size, 0, none⟩) n n) ∧ w'.ownsRow w.heap.size 5 1 (.slice (some ⟨w.heap.size, 0, none⟩) n n) n (bys zs) ∧ Below w.heap.size w w' := by
 obtain ⟨hl, hc, _⟩ := h
 by_cases h0 : n = 0
 · subst h0
   obtain rfl : zs = [] := List.eq_nil_of_length_eq_zero hl
   exact toByteS_zero ad cap w
 · rcases hc with h | ⟨b, off, rfl, hc⟩
   · exact absurd h h0
   · exact toByteS_pos b off n cap zs w hl hn (by have := World.block_lt_of_cell? w _ (hc 0 (by omega)); exact this) hc
set_option maxHeartbeats 800000 in
theorem eqByteS_pos (b off cap b' off' cap' n : Nat) (zs : List Int) (w : World) (hn : n ≤ 2097152)
 (hc : ∀ i, i < n → w.cell? ⟨b, off + i, none⟩ = some (.int .u8 (zs.getD i 0))) (hc' : ∀ i, i < n → w.cell? ⟨b', off' + i, none⟩ = some (.int .u8 (zs.getD i 0))) :
 Calls Try.prog 77 #[.slice (some ⟨b, off, none⟩) n cap, .slice (some ⟨b', off', none⟩) n cap'] w fun e w' => e = .returned (.bool true) ∧ Still w w' := by
 go_enter Try.func77, Try.ntmps77
 go_wp2
 go_loopw [5] (fun i wr => ∃ k m : Nat, k ≤ n ∧ i = .int .i64 k ∧ wr = w.drewN m) (fun i _ => n - (intOf i).toNat)
 case atStart => exact ⟨0, 0, Nat.zero_le _, rfl, rfl⟩
 case round =>
  obtain ⟨k, m, hk, rfl, rfl⟩ := hrel
  by_cases hlt : k < n
  · have h1 := hc k hlt
    have h2 := hc' k hlt
    generalize zs.getD k 0 = c at h1 h2
    have hlt' : (k : Int) < (n : Int) := by omega
    go_wp2
    go_quiet (fail)
    go_wp2
    go_roundw
    case rel => exact ⟨k + 1, _, by omega, by go_num, rfl⟩
    case measure => simp [intOf]; omega
  · go_wp2
    go_ret
    exact ⟨rfl, Still.drewN _ _⟩
set_option maxHeartbeats 800000 in
theorem eqByteS_zero (ad ad' : Option Addr) (cap cap' : Nat) (w : World) :
 Calls Try.prog 77 #[.slice ad 0 cap, .slice ad' 0 cap'] w fun e w' => e = .returned (.bool true) ∧ Still w w' := by
 go_enter Try.func77, Try.ntmps77
 go_wp2
 go_loopw [5] (fun i wr => i = .int .i64 (0 : Nat) ∧ wr = w) (fun _ _ => 0)
 case atStart => exact ⟨rfl, rfl⟩
 case round =>
  obtain ⟨rfl, rfl⟩ := hrel
  go_wp2
  go_ret
  exact ⟨rfl, Still.refl _⟩
theorem eqByteS_any {ad ad' : Option Addr} {n : Nat} (cap cap' : Nat) {zs : List Int} {w : World} (h : Reads w ad n zs) (h' : Reads w ad' n zs) (hn : n ≤ 2097152) :
 Calls Try.prog 77 #[.slice ad n cap, .slice ad' n cap'] w fun e w' => e = .returned (.bool true) ∧ Still w w' := by
 obtain ⟨hl, hc, _⟩ := h
 obtain ⟨hl', hc', _⟩ := h'
 by_cases h0 : n = 0
 · subst h0; exact eqByteS_zero ad ad' cap cap' w
 · rcases hc with h | ⟨b, off, rfl, hc⟩
   · exact absurd h h0
   rcases hc' with h | ⟨b', off', rfl, hc'⟩
   · exact absurd h h0
   exact eqByteS_pos b off cap b' off' cap' n zs w hn hc hc'
set_option maxHeartbeats 800000 in
theorem markByteS_pos (base g n cap : Nat) (k : Int) (xs : List Value) (w : World) (hn : n ≤ 2097152) (hk0 : 0 ≤ k) (hk1 : k ≤ 1000000000)
 (hown : w.ownsRow base 5 1 (.slice (some ⟨g, 0, none⟩) n cap) n xs) :
 Calls Try.prog 72 #[.slice (some ⟨g, 0, none⟩) n cap, .int .i64 k] w fun e w' =>
  e = .returned (.int .i64 (k + n)) ∧ w'.ownsRow base 5 1 (.slice (some ⟨g, 0, none⟩) n cap) n (bys (marks k n)) ∧ w.grownBy w' (some g) := by
 have hxl : xs.length = n := by have := hown.1; omega
 go_enter Try.func72, Try.ntmps72
 go_wp2
 go_loopw [1, 5] (fun kk i wr => ∃ j : Nat, j ≤ n ∧ i = .int .i64 j ∧ kk = .int .i64 (k + j) ∧ wr.ownsRow base 5 1 (.slice (some ⟨g, 0, none⟩) n cap) n (bys (marks k j) ++ xs.drop j) ∧ w.grownBy wr (some g)) (fun _ i _ => n - (intOf i).toNat)
 case atStart => exact ⟨0, Nat.zero_le _, rfl, by simp, by simpa [marks, bys] using hown, ⟨rfl, rfl, rfl, Nat.le_refl _, fun _ _ _ => rfl⟩⟩
 case round =>
  obtain ⟨j, hj, rfl, rfl, hown', hg⟩ := hrel
  by_cases hlt : j < n
  · have hcy : ∃ v, wr.cell? ⟨g, j, none⟩ = some v := by
     rw [hown'.cellAt j (by omega)]
     exact ⟨_, List.getElem?_eq_getElem (by simp [bys, marks]; omega)⟩
    obtain ⟨v, hcy⟩ := hcy
    have hfr : wr.frozen? ⟨g, j, none⟩ = false := hown'.frozenAt j
    have R := hown'.stored j (.int .u8 ((k + j) % 256))
    rw [set_mid _ xs j _ (by simp [bys, marks]) (by omega)] at R
    have R1 := hid R
    clear R hown' hown
    go_wp2
    go_roundw
    case rel =>
     refine ⟨j + 1, by omega, by go_num, by go_num, ?_, grown_trans hg R1.out.2⟩
     rw [marks_succ, bys_append]
     exact R1.out.1
    case measure => simp [intOf]; omega
  · go_wp2
    go_ret
    obtain rfl : j = n := by omega
    rw [List.drop_eq_nil_of_le (by omega), List.append_nil] at hown'
    exact ⟨rfl, hown', hg⟩
set_option maxHeartbeats 800000 in
theorem markByteS_zero (ad : Option Addr) (cap : Nat) (k : Int) (w : World) :
 Calls Try.prog 72 #[.slice ad 0 cap, .int .i64 k] w fun e w' => e = .returned (.int .i64 k) ∧ w' = w := by
 go_enter Try.func72, Try.ntmps72
 go_wp2
 go_loopw [1, 5] (fun kk i wr => i = .int .i64 (0 : Nat) ∧ kk = .int .i64 k ∧ wr = w) (fun _ _ _ => 0)
 case atStart => exact ⟨rfl, rfl, rfl⟩
 case round =>
  obtain ⟨rfl, rfl, rfl⟩ := hrel
  go_wp2
  go_ret
  exact ⟨rfl, rfl⟩
theorem markByteS_any {base n : Nat} {v : Value} (k : Int) {xs : List Value} {w : World} (hn : n ≤ 2097152) (hk0 : 0 ≤ k) (hk1 : k ≤ 1000000000)
 (hown : w.ownsRow base 5 1 v n xs) :
 Calls Try.prog 72 #[v, .int .i64 k] w fun e w' =>
  e = .returned (.int .i64 (k + n)) ∧ w'.ownsRow base 5 1 v n (bys (marks k n)) ∧ w.grownBy w' v.ownBlock := by
 rcases hown.2 with ⟨rfl, rfl⟩ | ⟨g, cap, cur, rfl, _⟩
 · refine (markByteS_zero none 0 k w).mono fun e w' ⟨he, hw⟩ => ?_
   subst hw
   exact ⟨by rw [he]; simp, by simpa [marks, bys] using World.ownsRow_nil w' base 5 1, grown_refl _ _⟩
 · exact markByteS_pos base g n cap k xs w hn hk0 hk1 hown
set_option maxHeartbeats 800000 in
theorem heldByteS_pos (b off cap n : Nat) (k : Int) (w : World) (hn : n ≤ 2097152) (hk0 : 0 ≤ k) (hk1 : k ≤ 1000000000)
 (hc : ∀ i, i < n → w.cell? ⟨b, off + i, none⟩ = some (.int .u8 ((k + (i : Nat)) % 256))) :
 Calls Try.prog 73 #[.slice (some ⟨b, off, none⟩) n cap, .int .i64 k] w fun e w' => e = .returned (.int .i64 (k + n)) ∧ w' = w := by
 go_enter Try.func73, Try.ntmps73
 go_wp2
 go_loopw [1, 5] (fun kk i wr => ∃ j : Nat, j ≤ n ∧ i = .int .i64 j ∧ kk = .int .i64 (k + j) ∧ wr = w) (fun _ i _ => n - (intOf i).toNat)
 case atStart => exact ⟨0, Nat.zero_le _, rfl, by simp, rfl⟩
 case round =>
  obtain ⟨j, hj, rfl, rfl, rfl⟩ := hrel
  by_cases hlt : j < n
  · have h1 := hc j hlt
    go_wp2
    go_roundw
    case rel => exact ⟨j + 1, by omega, by go_num, by go_num, by first | trivial | rfl⟩
    case measure => simp [intOf]; omega
  · go_wp2
    go_ret
    obtain rfl : j = n := by omega
    exact ⟨rfl, rfl⟩
set_option maxHeartbeats 800000 in
theorem heldByteS_zero (ad : Option Addr) (cap : Nat) (k : Int) (w : World) :
 Calls Try.prog 73 #[.slice ad 0 cap, .int .i64 k] w fun e w' => e = .returned (.int .i64 k) ∧ w' = w := by
 go_enter Try.func73, Try.ntmps73
 go_wp2
 go_loopw [1, 5] (fun kk i wr => i = .int .i64 (0 : Nat) ∧ kk = .int .i64 k ∧ wr = w) (fun _ _ _ => 0)
 case atStart => exact ⟨rfl, rfl, rfl⟩
 case round =>
  obtain ⟨rfl, rfl, rfl⟩ := hrel
  go_wp2
  go_ret
  exact ⟨rfl, rfl⟩
theorem heldByteS_any {ad : Option Addr} {n : Nat} (cap : Nat) (k : Int) {w : World} (h : Reads w ad n (marks k n)) (hn : n ≤ 2097152) (hk0 : 0 ≤ k) (hk1 : k ≤ 1000000000) :
 Calls Try.prog 73 #[.slice ad n cap, .int .i64 k] w fun e w' => e = .returned (.int .i64 (k + n)) ∧ w' = w := by
 rcases h.cells with rfl | ⟨b, off, rfl, hc⟩
 · refine (heldByteS_zero ad cap k w).mono fun e w' ⟨he, hw⟩ => ⟨by rw [he]; simp, hw⟩
 · exact heldByteS_pos b off cap n k w hn hk0 hk1 fun i hi => by rw [hc i hi, marks_at k n i hi]
end Go.Proofs.Ytphmlndkjgldkaa
/- Floats of 64 bits, by what they are worth: the number of least floats in each (its 'wval'), and what sums, differences, products and halves give where the result is exact. No statement of its own; no conditions. -/

namespace Go.Proofs.Ytphmlndkjgldkaa
open Ieee
def wval (r : Nat) : Nat := if r < 2 ^ 52 then r else (2 ^ 52 + r % 2 ^ 52) * 2 ^ (r / 2 ^ 52 - 1)
def rg (v : Nat) : Nat := (v.log2 - 52) * 2 ^ 52 + v / 2 ^ (v.log2 - 52)
theorem log2_mul_pow (m k : Nat) (h : 0 < m) : (m * 2 ^ k).log2 = m.log2 + k := by
 have hm : m ≠ 0 := by omega
 have h1 := Nat.log2_self_le hm
 have h2 := Nat.lt_log2_self (n := m)
 have hp : 0 < 2 ^ k := Nat.two_pow_pos k
 refine (Nat.log2_eq_iff (Nat.mul_ne_zero hm (by omega))).2 ⟨?_, ?_⟩
 · rw [Nat.pow_add]; exact Nat.mul_le_mul_right _ h1
 · rw [show m.log2 + k + 1 = (m.log2 + 1) + k by omega, Nat.pow_add]; exact Nat.mul_lt_mul_of_pos_right h2 hp
theorem cut_even (s : Bool) (q d : Nat) : Toward.even.cut s (q * 2 ^ d) d = q := by
 have hp : 0 < 2 ^ d := Nat.two_pow_pos d
 by_cases hq : q = 0
 · subst hq
   have : 0 < 1 <<< min d 2 := by rw [Nat.one_shiftLeft]; exact Nat.two_pow_pos _
   simp only [Toward.cut, Nat.zero_mul, Nat.log2_zero, Nat.zero_add, Nat.zero_div, Nat.zero_mod, Nat.mul_zero]
   have h1 : ¬ (1 <<< min d 2 < 0) := by omega
   have h2 : ((1 <<< min d 2) == 0) = false := beq_eq_false_iff_ne.2 (by omega)
   simp [h2]
 · have hl := log2_mul_pow q d (by omega)
   have hm : min d ((q * 2 ^ d).log2 + 2) = d := by omega
   simp only [Toward.cut, hm, Nat.one_shiftLeft]
   rw [Nat.mul_div_cancel _ hp, Nat.mul_mod_left]
   have h2 : ((2 ^ d) == 2 * 0) = false := beq_eq_false_iff_ne.2 (by omega)
   simp [h2]
theorem cut_zero (s : Bool) (n d : Nat) : Toward.zero.cut s n d = n / 2 ^ d := by
 simp only [Toward.cut, Nat.one_shiftLeft, Bool.toNat_false, Nat.add_zero]
 by_cases h : d ≤ n.log2 + 2
 · rw [Nat.min_eq_left h]
 · have h1 : n < 2 ^ (n.log2 + 1) := Nat.lt_log2_self
   have h2 : 2 ^ (n.log2 + 1) ≤ 2 ^ (n.log2 + 2) := Nat.pow_le_pow_right (by omega) (by omega)
   have h3 : 2 ^ (n.log2 + 2) ≤ 2 ^ d := Nat.pow_le_pow_right (by omega) (by omega)
   rw [Nat.min_eq_right (by omega), Nat.div_eq_of_lt (by omega), Nat.div_eq_of_lt (by omega)]
theorem lp : double.leastPlace = -1074 := by decide
theorem fb : double.fractionBits = 52 := rfl
theorem bin : double.binade = 2 ^ 52 := rfl
theorem infR : double.infRung = 2047 * 2 ^ 52 := by decide
theorem sw : double.signWeight = 2 ^ 63 := rfl
theorem rg_zero : rg 0 = 0 := by decide
theorem nearest_rg (s : Bool) (m : Nat) (p : Int) (v : Nat) (h : m * 2 ^ (p + 1074).toNat = v * 2 ^ (-1074 - p).toNat) (hd : 2 ^ (v.log2 - 52) ∣ v) :
 double.nearest s m p = double.word s (min (rg v) (2047 * 2 ^ 52)) := by
 by_cases hm : m = 0
 · subst hm
   have hp : 0 < 2 ^ (-1074 - p).toNat := Nat.two_pow_pos _
   have hv : v = 0 := by
    rw [Nat.zero_mul] at h
    rcases Nat.mul_eq_zero.1 h.symm with h | h
    · exact h
    · omega
   subst hv
   rw [rg_zero]
   simp [Format.nearest]
 · have hv : 0 < v := by
    rcases Nat.eq_zero_or_pos v with rfl | h0
    · rw [Nat.zero_mul] at h
      rcases Nat.mul_eq_zero.1 h with h | h
      · exact absurd h hm
      · have := Nat.two_pow_pos (p + 1074).toNat; omega
    · exact h0
   have hl : m.log2 + (p + 1074).toNat = v.log2 + (-1074 - p).toNat := by
    rw [← log2_mul_pow m _ (by omega), ← log2_mul_pow v _ hv, h]
   obtain ⟨q, hq⟩ := hd
   have hrg : rg v = (v.log2 - 52) * 2 ^ 52 + q := by
    unfold rg
    have hp : 0 < 2 ^ (v.log2 - 52) := Nat.two_pow_pos _
    have : v / 2 ^ (v.log2 - 52) = q := by
     rw [Nat.div_eq_iff_eq_mul_left hp ⟨q, hq⟩, Nat.mul_comm]
     exact hq
    rw [this]
   have hK : max (p + (m.log2 : Int) - (52 : Nat)) (-1074) = ((v.log2 - 52 : Nat) : Int) - 1074 := by omega
   rw [hrg]
   have hkept : Toward.even.cut s (m <<< (p - (((v.log2 - 52 : Nat) : Int) - 1074)).toNat) ((((v.log2 - 52 : Nat) : Int) - 1074) - p).toNat = q := by
    clear hK hrg hl
    generalize v.log2 - 52 = K at hq
    rw [hq] at h
    by_cases ht : (K : Int) ≤ p + 1074
    · obtain ⟨t, ht'⟩ : ∃ t : Nat, p + 1074 = K + t := ⟨(p + 1074 - K).toNat, by omega⟩
      have e1 : (p - ((K : Int) - 1074)).toNat = t := by omega
      have e2 : (((K : Int) - 1074) - p).toNat = 0 := by omega
      have e3 : (p + 1074).toNat = K + t := by omega
      have e4 : (-1074 - p).toNat = 0 := by omega
      rw [e3, e4, Nat.pow_zero, Nat.mul_one, Nat.pow_add] at h
      rw [e1, e2, Nat.shiftLeft_eq]
      have hp : 0 < 2 ^ K := Nat.two_pow_pos _
      have : m * 2 ^ t = q := by
       apply Nat.eq_of_mul_eq_mul_left hp
       rw [← h, ← Nat.mul_assoc, Nat.mul_comm (2 ^ K) m, Nat.mul_assoc]
      rw [this]
      have := cut_even s q 0
      rwa [Nat.pow_zero, Nat.mul_one] at this
    · obtain ⟨t, ht'⟩ : ∃ t : Nat, (K : Int) = p + 1074 + t := ⟨(K - (p + 1074)).toNat, by omega⟩
      have e1 : (p - ((K : Int) - 1074)).toNat = 0 := by omega
      have e2 : (((K : Int) - 1074) - p).toNat = t := by omega
      rw [e1, e2, Nat.shiftLeft_eq, Nat.pow_zero, Nat.mul_one]
      have : m = q * 2 ^ t := by
       by_cases hA : 0 ≤ p + 1074
       · obtain ⟨A, hA'⟩ : ∃ A : Nat, p + 1074 = A := ⟨(p + 1074).toNat, by omega⟩
         have e3 : (p + 1074).toNat = A := by omega
         have e4 : (-1074 - p).toNat = 0 := by omega
         have e5 : K = A + t := by omega
         rw [e3, e4, Nat.pow_zero, Nat.mul_one, e5, Nat.pow_add] at h
         have hp : 0 < 2 ^ A := Nat.two_pow_pos _
         apply Nat.eq_of_mul_eq_mul_right hp
         rw [h, Nat.mul_comm q, Nat.mul_assoc, Nat.mul_assoc, Nat.mul_comm, Nat.mul_assoc]
       · obtain ⟨A, hA'⟩ : ∃ A : Nat, p + 1074 = -A := ⟨(-(p + 1074)).toNat, by omega⟩
         have e3 : (p + 1074).toNat = 0 := by omega
         have e4 : (-1074 - p).toNat = A := by omega
         have e5 : t = K + A := by omega
         rw [e3, e4, Nat.pow_zero, Nat.mul_one] at h
         rw [h, e5, Nat.pow_add, Nat.mul_comm (2 ^ K) q, Nat.mul_assoc]
      rw [this, cut_even]
   simp only [Format.nearest, hm, if_false, lp, fb, bin, infR]
   rw [hK, hkept]
   have e : ((((v.log2 - 52 : Nat) : Int) - 1074) - -1074).toNat = v.log2 - 52 := by omega
   rw [e]
def Rep (v : Nat) : Prop := rg v < 2047 * 2 ^ 52 ∧ wval (rg v) = v ∧ 2 ^ (v.log2 - 52) ∣ v
theorem rep_of (c j : Nat) (hc : c < 2 ^ 53) (hv : j ≤ 2045) : Rep (c * 2 ^ j) := by
 by_cases h0 : c = 0
 · subst h0
   rw [Nat.zero_mul]
   refine ⟨by rw [rg_zero]; decide, by rw [rg_zero]; decide, ⟨0, by simp⟩⟩
 · have hl := log2_mul_pow c j (by omega)
   have hcl : c.log2 < 53 := (Nat.log2_lt h0).2 hc
   have hdvd : 2 ^ ((c * 2 ^ j).log2 - 52) ∣ c * 2 ^ j := Nat.dvd_trans (Nat.pow_dvd_pow 2 (by omega)) ⟨c, Nat.mul_comm _ _⟩
   have hpos : c * 2 ^ j ≠ 0 := Nat.mul_ne_zero h0 (by have := Nat.two_pow_pos j; omega)
   generalize c * 2 ^ j = v at *
   have hL := Nat.log2_self_le hpos
   have hU := Nat.lt_log2_self (n := v)
   have hLv : v.log2 < 2098 := by omega
   unfold Rep rg
   by_cases hs : v.log2 ≤ 52
   · have e : v.log2 - 52 = 0 := by omega
     rw [e] at hdvd ⊢
     rw [Nat.pow_zero, Nat.zero_mul, Nat.zero_add, Nat.div_one]
     have h53 : v < 2 ^ 53 := Nat.lt_of_lt_of_le hU (Nat.pow_le_pow_right (by omega) (by omega))
     refine ⟨by omega, ?_, ⟨v, by omega⟩⟩
     unfold wval
     split
     · rfl
     · have : v / 2 ^ 52 = 1 := by omega
       rw [this]
       omega
   · obtain ⟨K, hK⟩ : ∃ K, v.log2 = 52 + K := ⟨v.log2 - 52, by omega⟩
     have e : v.log2 - 52 = K := by omega
     rw [e] at hdvd ⊢
     rw [hK] at hL hU
     obtain ⟨q, rfl⟩ := hdvd
     have hp : 0 < 2 ^ K := Nat.two_pow_pos _
     rw [Nat.mul_div_cancel_left _ hp]
     have hq1 : 2 ^ 52 ≤ q := by
      rw [Nat.pow_add, Nat.mul_comm] at hL
      exact Nat.le_of_mul_le_mul_left hL hp
     have hq2 : q < 2 ^ 53 := by
      rw [show 52 + K + 1 = K + 53 by omega, Nat.pow_add] at hU
      exact Nat.lt_of_mul_lt_mul_left hU
     have hKl : K ≤ 2045 := by omega
     refine ⟨by omega, ?_, ⟨q, rfl⟩⟩
     unfold wval
     have h1 : ¬ (K * 2 ^ 52 + q < 2 ^ 52) := by omega
     have h2 : (K * 2 ^ 52 + q) / 2 ^ 52 = K + 1 := by omega
     have h3 : (K * 2 ^ 52 + q) % 2 ^ 52 = q - 2 ^ 52 := by omega
     have h4 : 2 ^ 52 + (q - 2 ^ 52) = q := by omega
     rw [if_neg h1, h2, h3, h4, Nat.add_sub_cancel, Nat.mul_comm]
theorem wval_lt (a b : Nat) (h : a < b) : wval a < wval b := by
 unfold wval
 by_cases hb : b < 2 ^ 52
 · rw [if_pos hb, if_pos (by omega)]
   exact h
 · rw [if_neg hb]
   have hm : a % 2 ^ 52 < 2 ^ 52 := Nat.mod_lt _ (by omega)
   by_cases ha : a < 2 ^ 52
   · rw [if_pos ha]
     have hp : 0 < 2 ^ (b / 2 ^ 52 - 1) := Nat.two_pow_pos _
     have : (2 ^ 52 + b % 2 ^ 52) * 1 ≤ (2 ^ 52 + b % 2 ^ 52) * 2 ^ (b / 2 ^ 52 - 1) := Nat.mul_le_mul_left _ hp
     omega
   · rw [if_neg ha]
     have hab : a / 2 ^ 52 ≤ b / 2 ^ 52 := Nat.div_le_div_right (by omega)
     by_cases he : a / 2 ^ 52 = b / 2 ^ 52
     · rw [he]
       exact Nat.mul_lt_mul_of_pos_right (by omega) (Nat.two_pow_pos _)
     · obtain ⟨t, ht⟩ : ∃ t, b / 2 ^ 52 - 1 = (a / 2 ^ 52 - 1) + 1 + t := ⟨b / 2 ^ 52 - 1 - (a / 2 ^ 52 - 1) - 1, by omega⟩
       rw [ht, Nat.pow_add, Nat.pow_succ (n := 2) (m := a / 2 ^ 52 - 1)]
       have hp : 0 < 2 ^ (a / 2 ^ 52 - 1) := Nat.two_pow_pos _
       have ht' : 0 < 2 ^ t := Nat.two_pow_pos _
       generalize 2 ^ (a / 2 ^ 52 - 1) = P at *
       calc (2 ^ 52 + a % 2 ^ 52) * P < (2 ^ 52 * 2) * P := Nat.mul_lt_mul_of_pos_right (by omega) hp
        _ = 2 ^ 52 * (P * 2) := by rw [Nat.mul_assoc, Nat.mul_comm 2 P]
        _ ≤ 2 ^ 52 * (P * 2 * 2 ^ t) := Nat.mul_le_mul_left _ (Nat.le_mul_of_pos_right _ ht')
        _ ≤ (2 ^ 52 + b % 2 ^ 52) * (P * 2 * 2 ^ t) := Nat.mul_le_mul_right _ (by omega)
theorem wval_inj (a b : Nat) (h : wval a = wval b) : a = b := by
 rcases Nat.lt_trichotomy a b with h' | h' | h'
 · have := wval_lt a b h'; omega
 · exact h'
 · have := wval_lt b a h'; omega
theorem wval_form (r : Nat) (h : r < 2047 * 2 ^ 52) : ∃ c j, c < 2 ^ 53 ∧ wval r = c * 2 ^ j ∧ j ≤ 2045 := by
 unfold wval
 have hm : r % 2 ^ 52 < 2 ^ 52 := Nat.mod_lt _ (by omega)
 split
 · exact ⟨r, 0, by omega, by rw [Nat.pow_zero, Nat.mul_one], by omega⟩
 · exact ⟨_, _, by omega, rfl, by omega⟩
theorem rep_wval (r : Nat) (h : r < 2047 * 2 ^ 52) : Rep (wval r) := by
 obtain ⟨c, j, hc, he, hv⟩ := wval_form r h
 rw [he]
 exact rep_of c j hc hv
theorem rg_wval (r : Nat) (h : r < 2047 * 2 ^ 52) : rg (wval r) = r := wval_inj _ _ (rep_wval r h).2.1
theorem read_word (s : Bool) (r : Nat) (h : r < 2047 * 2 ^ 52) : ∃ m : Nat, ∃ k : Nat, double.read (double.word s r) = .number s m ((k : Int) - 1074) ∧ m * 2 ^ k = wval r ∧ m < 2 ^ 53 := by
 have h63 : r < 2 ^ 63 := by omega
 have hs : (double.word s r / double.signWeight % 2 == 1) = s := by
  unfold Format.word
  rw [sw]
  cases s
  · rw [if_neg (by simp)]
    have : r / 2 ^ 63 = 0 := by omega
    rw [this]; rfl
  · rw [if_pos rfl]
    have : (2 ^ 63 + r) / 2 ^ 63 % 2 = 1 := by omega
    rw [this]; rfl
 have hr : double.word s r % double.signWeight = r := by
  unfold Format.word
  rw [sw]
  cases s
  · rw [if_neg (by simp)]; omega
  · rw [if_pos rfl]; omega
 simp only [Format.read, hs, hr, bin, infR, lp]
 have hm : r % 2 ^ 52 < 2 ^ 52 := Nat.mod_lt _ (by omega)
 by_cases h1 : r < 2 ^ 52
 · rw [if_pos h1]
   refine ⟨r, 0, rfl, ?_, by omega⟩
   rw [wval, if_pos h1, Nat.pow_zero, Nat.mul_one]
 · rw [if_neg h1, if_pos h]
   refine ⟨2 ^ 52 + r % 2 ^ 52, r / 2 ^ 52 - 1, ?_, ?_, ?_⟩
   · congr 1
   · rw [wval, if_neg h1]
   · omega
theorem write_word (s : Bool) (m : Nat) (p : Int) (r : Nat) (hr : r < 2047 * 2 ^ 52) (h : m * 2 ^ (p + 1074).toNat = wval r * 2 ^ (-1074 - p).toNat) : double.write (.number s m p) = double.word s r := by
 have hR := rep_wval r hr
 have := nearest_rg s m p (wval r) h hR.2.2
 rw [rg_wval r hr, Nat.min_eq_left (by omega)] at this
 exact this
theorem shift (M V A B : Nat) (h : M * 2 ^ A = V * 2 ^ B) : M * 2 ^ ((A : Int) - B).toNat = V * 2 ^ ((B : Int) - A).toNat := by
 by_cases hAB : B ≤ A
 · obtain ⟨t, rfl⟩ : ∃ t, A = B + t := ⟨A - B, by omega⟩
   have e1 : (((B + t : Nat) : Int) - B).toNat = t := by omega
   have e2 : ((B : Int) - ((B + t : Nat) : Int)).toNat = 0 := by omega
   rw [e1, e2, Nat.pow_zero, Nat.mul_one]
   have hp : 0 < 2 ^ B := Nat.two_pow_pos _
   apply Nat.eq_of_mul_eq_mul_right hp
   rw [← h, Nat.pow_add, Nat.mul_assoc, Nat.mul_comm (2 ^ t)]
 · obtain ⟨t, rfl⟩ : ∃ t, B = A + t := ⟨B - A, by omega⟩
   have e1 : (((A + t : Nat) : Int) - A).toNat = t := by omega
   have e2 : ((A : Int) - ((A + t : Nat) : Int)).toNat = 0 := by omega
   rw [e1, e2, Nat.pow_zero, Nat.mul_one]
   have hp : 0 < 2 ^ A := Nat.two_pow_pos _
   apply Nat.eq_of_mul_eq_mul_right hp
   rw [h, Nat.pow_add, Nat.mul_assoc, Nat.mul_comm (2 ^ A)]
theorem write_by (s : Bool) (m : Nat) (p : Int) (r A B : Nat) (hr : r < 2047 * 2 ^ 52) (hp : p + 1074 = (A : Int) - B) (h : m * 2 ^ A = wval r * 2 ^ B) : double.write (.number s m p) = double.word s r := by
 refine write_word s m p r hr ?_
 rw [show (-1074 - p : Int) = (B : Int) - A by omega, hp]
 exact shift _ _ _ _ h
theorem mul_exact (s t : Bool) (a b c : Nat) (ha : a < 2047 * 2 ^ 52) (hb : b < 2047 * 2 ^ 52) (hc : c < 2047 * 2 ^ 52) (h : wval a * wval b = wval c * 2 ^ 1074) :
 double.mul (double.word s a) (double.word t b) = some (double.word (s ^^ t) c) := by
 obtain ⟨m, k, e1, v1, -⟩ := read_word s a ha
 obtain ⟨n, l, e2, v2, -⟩ := read_word t b hb
 rw [Format.mul, e1, e2]
 simp only [Datum.product, Option.map_some]
 rw [write_by (s ^^ t) _ _ c (k + l) 1074 hc (by omega)]
 rw [← h, ← v1, ← v2, Nat.pow_add, Nat.mul_assoc, Nat.mul_assoc, ← Nat.mul_assoc n, ← Nat.mul_assoc (2 ^ k), Nat.mul_comm (2 ^ k) n]
theorem shl_to (m k b : Nat) (h : b ≤ k) : m <<< (((k : Int) - 1074) - ((b : Int) - 1074)).toNat * 2 ^ b = m * 2 ^ k := by
 rw [show (((k : Int) - 1074) - ((b : Int) - 1074)).toNat = k - b by omega, Nat.shiftLeft_eq, Nat.mul_assoc, ← Nat.pow_add, Nat.sub_add_cancel h]
theorem min_place (k l : Nat) : min ((k : Int) - 1074) ((l : Int) - 1074) = ((min k l : Nat) : Int) - 1074 := by omega
theorem add_exact (a b c : Nat) (ha : a < 2047 * 2 ^ 52) (hb : b < 2047 * 2 ^ 52) (hc : c < 2047 * 2 ^ 52) (h : wval a + wval b = wval c) :
 double.add a b = some c := by
 obtain ⟨m, k, e1, v1, -⟩ := read_word false a ha
 obtain ⟨n, l, e2, v2, -⟩ := read_word false b hb
 have ea : double.word false a = a := rfl
 have eb : double.word false b = b := rfl
 have ec : double.word false c = c := rfl
 rw [ea] at e1
 rw [eb] at e2
 rw [Format.add, e1, e2]
 simp only [Datum.sum, Option.map_some, min_place, signed, Bool.false_eq_true, if_false, Bool.and_self]
 have h1 := shl_to m k (min k l) (Nat.min_le_left _ _)
 have h2 := shl_to n l (min k l) (Nat.min_le_right _ _)
 generalize m <<< (((k : Int) - 1074) - (((min k l : Nat) : Int) - 1074)).toNat = X at *
 generalize n <<< (((l : Int) - 1074) - (((min k l : Nat) : Int) - 1074)).toNat = Y at *
 have hs : (if (X : Int) + Y = 0 then false else decide ((X : Int) + Y < 0)) = false := by
  split
  · rfl
  · exact decide_eq_false (by omega)
 have hn : ((X : Int) + Y).natAbs = X + Y := by omega
 rw [hs, hn, write_by false _ _ c (min k l) 0 hc (by omega), ec]
 rw [Nat.pow_zero, Nat.mul_one, Nat.add_mul, h1, h2, ← h, v1, v2]
theorem sub_exact (a b c : Nat) (ha : a < 2047 * 2 ^ 52) (hb : b < 2047 * 2 ^ 52) (hc : c < 2047 * 2 ^ 52) (h : wval a = wval b + wval c) :
 double.sub a b = some c := by
 obtain ⟨m, k, e1, v1, -⟩ := read_word false a ha
 obtain ⟨n, l, e2, v2, -⟩ := read_word false b hb
 have ea : double.word false a = a := rfl
 have eb : double.word false b = b := rfl
 have ec : double.word false c = c := rfl
 rw [ea] at e1
 rw [eb] at e2
 rw [Format.sub, e1, e2]
 simp only [Datum.opposite, Datum.sum, Option.map_some, min_place, signed, Bool.false_eq_true, if_false, Bool.not_false, if_true, Bool.and_true]
 have h1 := shl_to m k (min k l) (Nat.min_le_left _ _)
 have h2 := shl_to n l (min k l) (Nat.min_le_right _ _)
 generalize m <<< (((k : Int) - 1074) - (((min k l : Nat) : Int) - 1074)).toNat = X at *
 generalize n <<< (((l : Int) - 1074) - (((min k l : Nat) : Int) - 1074)).toNat = Y at *
 have hp : 0 < 2 ^ min k l := Nat.two_pow_pos _
 have hXY : Y ≤ X := by
  apply Nat.le_of_mul_le_mul_right _ hp
  omega
 have hs : (if (X : Int) + -(Y : Int) = 0 then false else decide ((X : Int) + -(Y : Int) < 0)) = false := by
  split
  · rfl
  · exact decide_eq_false (by omega)
 have hn : ((X : Int) + -(Y : Int)).natAbs = X - Y := by omega
 rw [hs, hn, write_by false _ _ c (min k l) 0 hc (by omega), ec]
 rw [Nat.pow_zero, Nat.mul_one, Nat.sub_mul, h1, h2]
 omega
theorem half_exact (s : Bool) (d a c q : Nat) (hd : double.read d = .number false (2 ^ 52) ((q : Int) - 52)) (ha : a < 2047 * 2 ^ 52) (hc : c < 2047 * 2 ^ 52) (h : wval a = wval c * 2 ^ q) :
 double.div (double.word s a) d = some (double.word s c) := by
 obtain ⟨m, k, e1, v1, hm⟩ := read_word s a ha
 have hl : m.log2 ≤ 52 := by
  by_cases h0 : m = 0
  · subst h0; decide
  · have := (Nat.log2_lt h0).2 hm
    omega
 have h52 : (2 ^ 52 : Nat).log2 = 52 := by decide
 have hn0 : ¬ ((2 : Nat) ^ 52 = 0) := by decide
 rw [Format.div, e1, hd]
 simp only [Datum.quotient, fb, hn0, if_false, h52, Option.map_some, Bool.xor_false]
 obtain ⟨t, ht⟩ : ∃ t, 52 + 2 + 52 - m.log2 = 52 + t := ⟨52 + 2 - m.log2, by omega⟩
 rw [ht]
 have hdiv : m <<< (52 + t) = (m * 2 ^ t) * 2 ^ 52 := by rw [Nat.shiftLeft_eq, Nat.pow_add, Nat.mul_comm (2 ^ 52), Nat.mul_assoc]
 rw [hdiv, Nat.mul_div_cancel _ (by decide), Nat.mul_mod_left]
 simp only [bne_self_eq_false, Bool.toNat_false, Nat.add_zero]
 rw [write_by s _ _ c k (q + t + 1) hc (by omega)]
 have e : 2 * (m * 2 ^ t) * 2 ^ k = (m * 2 ^ k) * 2 ^ t * 2 := by ac_rfl
 rw [e, v1, h, Nat.pow_succ, Nat.pow_add]
 ac_rfl
theorem toInt_exact (a : Nat) (ha : a < 2047 * 2 ^ 52) (n : Nat) (h : wval a = n * 2 ^ 1074) : (double.read a).toInt .zero = some (n : Int) := by
 obtain ⟨m, k, e1, v1, hm⟩ := read_word false a ha
 have ea : double.word false a = a := rfl
 rw [ea] at e1
 rw [e1]
 simp only [Datum.toInt, Datum.integral, signed, Bool.false_eq_true, if_false, Nat.shiftLeft_zero, cut_zero]
 rw [← v1] at h
 have := shift _ _ _ _ h
 rw [Nat.shiftLeft_eq]
 have e1 : (k : Int) - ((1074 : Nat) : Int) = (k : Int) - 1074 := rfl
 have e2 : ((1074 : Nat) : Int) - (k : Int) = -((k : Int) - 1074) := by omega
 rw [e1, e2] at this
 rw [this, Nat.mul_div_cancel _ (Nat.two_pow_pos _)]
theorem sign_of (s : Bool) (r : Nat) (h : r < 2 ^ 63) : (double.word s r / double.signWeight % 2 == 1) = s := by
 unfold Format.word
 rw [sw]
 cases s
 · rw [if_neg (by simp)]
   have : r / 2 ^ 63 = 0 := by omega
   rw [this]; rfl
 · rw [if_pos rfl]
   have : (2 ^ 63 + r) / 2 ^ 63 % 2 = 1 := by omega
   rw [this]; rfl
theorem place_of (s : Bool) (r : Nat) (h : r < 2 ^ 63) : double.word s r % double.signWeight = r := by
 unfold Format.word
 rw [sw]
 cases s
 · rw [if_neg (by simp)]; omega
 · rw [if_pos rfl]; omega
theorem read_inf (s : Bool) : double.read (double.word s (2047 * 2 ^ 52)) = .infinity s := by cases s <;> decide
theorem read_nan (s : Bool) (r : Nat) (h : 2047 * 2 ^ 52 < r) (h' : r < 2 ^ 63) : double.read (double.word s r) = .nan s (r - 2047 * 2 ^ 52) := by
 simp only [Format.read, sign_of s r h', place_of s r h', bin, infR]
 rw [if_neg (by omega), if_neg (by omega), if_neg (by omega)]
def key (s : Bool) (r : Nat) : Int := if s then -(r : Int) else r
def sv (s : Bool) (r : Nat) : Int := if s then -(wval r : Int) else wval r
theorem wval_pos (a : Nat) (h : 0 < a) : 0 < wval a := by
 have := wval_lt 0 a h
 omega
theorem wval_zero : wval 0 = 0 := by decide
theorem sv_lt (s t : Bool) (a b : Nat) : sv s a < sv t b ↔ key s a < key t b := by
 have hz := wval_zero
 have h1 : a < b ↔ wval a < wval b := ⟨wval_lt a b, fun h => by
  rcases Nat.lt_trichotomy a b with h' | h' | h'
  · exact h'
  · subst h'; omega
  · have := wval_lt b a h'; omega⟩
 have h2 : b < a ↔ wval b < wval a := ⟨wval_lt b a, fun h => by
  rcases Nat.lt_trichotomy a b with h' | h' | h'
  · have := wval_lt a b h'; omega
  · subst h'; omega
  · exact h'⟩
 have h3 : 0 < a ↔ 0 < wval a := ⟨wval_pos a, fun h => by
  rcases Nat.eq_zero_or_pos a with rfl | h'
  · omega
  · exact h'⟩
 have h4 : 0 < b ↔ 0 < wval b := ⟨wval_pos b, fun h => by
  rcases Nat.eq_zero_or_pos b with rfl | h'
  · omega
  · exact h'⟩
 cases s <;> cases t <;> simp only [sv, key, if_true, Bool.false_eq_true, if_false] <;> omega
theorem cmp_eq (x y x' y' : Int) (h1 : x < y ↔ x' < y') (h2 : y < x ↔ y' < x') : compare x y = compare x' y' := by
 simp only [compare, compareOfLessAndEq]
 by_cases h : x < y
 · rw [if_pos h, if_pos (h1.1 h)]
 · rw [if_neg h, if_neg (fun h' => h (h1.2 h'))]
   by_cases e : x = y
   · rw [if_pos e, if_pos (by omega)]
   · rw [if_neg e, if_neg (by omega)]
theorem signed_mul (s : Bool) (m k b : Nat) (h : b ≤ k) : signed s m (((k : Int) - 1074) - ((b : Int) - 1074)).toNat * (2 ^ b : Nat) = if s then -((m * 2 ^ k : Nat) : Int) else ((m * 2 ^ k : Nat) : Int) := by
 have := shl_to m k b h
 unfold signed
 cases s
 · simp only [Bool.false_eq_true, if_false]
   rw [← Int.natCast_mul, this]
 · simp only [if_true]
   rw [Int.neg_mul, ← Int.natCast_mul, this]
theorem order_key (s t : Bool) (a b : Nat) (ha : a ≤ 2047 * 2 ^ 52) (hb : b ≤ 2047 * 2 ^ 52) : double.order (double.word s a) (double.word t b) = some (compare (key s a) (key t b)) := by
 unfold Format.order
 by_cases ha' : a = 2047 * 2 ^ 52
 · subst ha'
   rw [read_inf]
   by_cases hb' : b = 2047 * 2 ^ 52
   · subst hb'
     rw [read_inf]
     cases s <;> cases t <;> rfl
   · obtain ⟨n, l, e2, v2, -⟩ := read_word t b (by omega)
     rw [e2]
     simp only [Datum.order]
     congr 1
     cases s <;> cases t <;> simp only [key, if_true, Bool.false_eq_true, if_false, compare, compareOfLessAndEq] <;> (first | (rw [if_pos (by omega)]; done) | (rw [if_neg (by omega), if_neg (by omega)]))
 · obtain ⟨m, k, e1, v1, -⟩ := read_word s a (by omega)
   rw [e1]
   by_cases hb' : b = 2047 * 2 ^ 52
   · subst hb'
     rw [read_inf]
     simp only [Datum.order]
     congr 1
     cases s <;> cases t <;> simp only [key, if_true, Bool.false_eq_true, if_false, compare, compareOfLessAndEq] <;> (first | (rw [if_pos (by omega)]; done) | (rw [if_neg (by omega), if_neg (by omega)]))
   · obtain ⟨n, l, e2, v2, -⟩ := read_word t b (by omega)
     rw [e2]
     simp only [Datum.order, min_place]
     congr 1
     have h1 := signed_mul s m k (min k l) (Nat.min_le_left _ _)
     have h2 := signed_mul t n l (min k l) (Nat.min_le_right _ _)
     rw [v1] at h1
     rw [v2] at h2
     generalize signed s m (((k : Int) - 1074) - (((min k l : Nat) : Int) - 1074)).toNat = X at *
     generalize signed t n (((l : Int) - 1074) - (((min k l : Nat) : Int) - 1074)).toNat = Y at *
     have hp : (0 : Int) < ((2 ^ min k l : Nat) : Int) := Int.natCast_pos.2 (Nat.two_pow_pos _)
     generalize ((2 ^ min k l : Nat) : Int) = P at *
     have h1' : X * P = sv s a := h1
     have h2' : Y * P = sv t b := h2
     refine cmp_eq _ _ _ _ ?_ ?_
     · rw [← sv_lt, ← h1', ← h2']
       exact ⟨fun h => Int.mul_lt_mul_of_pos_right h hp, fun h => Int.lt_of_mul_lt_mul_right h (by omega)⟩
     · rw [← sv_lt, ← h1', ← h2']
       exact ⟨fun h => Int.mul_lt_mul_of_pos_right h hp, fun h => Int.lt_of_mul_lt_mul_right h (by omega)⟩
theorem order_nan_l (s : Bool) (r y : Nat) (h : 2047 * 2 ^ 52 < r) (h' : r < 2 ^ 63) : double.order (double.word s r) y = none := by
 unfold Format.order
 rw [read_nan s r h h']
 rfl
end Go.Proofs.Ytphmlndkjgldkaa
/- Floats of 64 bits, by their bits: which are NaN, how two stand to each other, their ranks. No statement of its own; no conditions. -/

namespace Go.Proofs.Ytphmlndkjgldkaa
open Ieee
def isN (x : Nat) : Bool := decide (9218868437227405312 < x % 9223372036854775808)
def kx (x : Nat) : Int := if x < 9223372036854775808 then (x : Int) else 9223372036854775808 - x
def fbits (x : Nat) : Nat := if isN x then 9221120237041090560 else x
def frank (x : Nat) : Nat := if isN x then 18446744073709551615 else if x % 9223372036854775808 = 0 then 9223372036854775808 else if x < 9223372036854775808 then x + 9223372036854775808 else 18446744073709551615 - x
theorem isN_iff (x : Nat) : isN x = true ↔ 9218868437227405312 < x % 9223372036854775808 := by simp [isN]
theorem isN_not (x : Nat) : isN x = false ↔ x % 9223372036854775808 ≤ 9218868437227405312 := by simp [isN]
theorem word_neg (r : Nat) : double.word true r = 9223372036854775808 + r := by unfold Format.word; rw [sw, if_pos rfl]
theorem split_x (x : Nat) (h : x < 18446744073709551616) : ∃ s r, r < 9223372036854775808 ∧ x = double.word s r ∧ x % 9223372036854775808 = r ∧ kx x = key s r := by
 by_cases hx : x < 9223372036854775808
 · exact ⟨false, x, hx, rfl, by omega, by rw [kx, if_pos hx]; rfl⟩
 · refine ⟨true, x - 9223372036854775808, by omega, by rw [word_neg]; omega, by omega, ?_⟩
   rw [kx, if_neg hx, key, if_pos rfl]
   omega
theorem order_x (x y : Nat) (hx : x < 18446744073709551616) (hy : y < 18446744073709551616) (nx : isN x = false) (ny : isN y = false) : FloatKind.f64.format.order x y = some (compare (kx x) (kx y)) := by
 rw [isN_not] at nx ny
 obtain ⟨s, a, -, rfl, ea, ka⟩ := split_x x hx
 obtain ⟨t, b, -, rfl, eb, kb⟩ := split_x y hy
 rw [ka, kb]
 exact order_key s t a b (by omega) (by omega)
theorem order_l (x y : Nat) (hx : x < 18446744073709551616) (nx : isN x = true) : FloatKind.f64.format.order x y = none := by
 rw [isN_iff] at nx
 obtain ⟨s, a, h, rfl, ea, -⟩ := split_x x hx
 exact order_nan_l s a y (by omega) (by omega)
theorem order_lt (x y : Nat) (hx : x < 18446744073709551616) (hy : y < 18446744073709551616) (nx : isN x = false) (ny : isN y = false) (h : kx x < kx y) : FloatKind.f64.format.order x y = some .lt := by
 rw [order_x x y hx hy nx ny]
 congr 1
 simp only [compare, compareOfLessAndEq]
 rw [if_pos h]
theorem order_eq (x y : Nat) (hx : x < 18446744073709551616) (hy : y < 18446744073709551616) (nx : isN x = false) (ny : isN y = false) (h : kx x = kx y) : FloatKind.f64.format.order x y = some .eq := by
 rw [order_x x y hx hy nx ny]
 congr 1
 simp only [compare, compareOfLessAndEq]
 rw [if_neg (by omega), if_pos h]
theorem order_gt (x y : Nat) (hx : x < 18446744073709551616) (hy : y < 18446744073709551616) (nx : isN x = false) (ny : isN y = false) (h : kx y < kx x) : FloatKind.f64.format.order x y = some .gt := by
 rw [order_x x y hx hy nx ny]
 congr 1
 simp only [compare, compareOfLessAndEq]
 rw [if_neg (by omega), if_neg (by omega)]
end Go.Proofs.Ytphmlndkjgldkaa
/- What halves, doubles, sums and cuts of floats give, in the steps that the specification takes. No statement of its own; no conditions. -/

namespace Go.Proofs.Ytphmlndkjgldkaa
open Ieee
def F (c j : Nat) : Nat := rg (c * 2 ^ j)
theorem F_wval (c j : Nat) (hc : c < 2 ^ 53) (hj : j ≤ 2045) : wval (F c j) = c * 2 ^ j := (rep_of c j hc hj).2.1
theorem F_lt (c j : Nat) (hc : c < 2 ^ 53) (hj : j ≤ 2045) : F c j < 2047 * 2 ^ 52 := (rep_of c j hc hj).1
theorem F_of (r c j : Nat) (h : r < 2047 * 2 ^ 52) (e : wval r = c * 2 ^ j) : r = F c j := by rw [F, ← e, rg_wval r h]
theorem wval_norm (t f : Nat) (hf : f < 2 ^ 52) : wval ((t + 1) * 2 ^ 52 + f) = (2 ^ 52 + f) * 2 ^ t := by
 unfold wval
 have h1 : ¬ ((t + 1) * 2 ^ 52 + f < 2 ^ 52) := by omega
 have h2 : ((t + 1) * 2 ^ 52 + f) / 2 ^ 52 = t + 1 := by omega
 have h3 : ((t + 1) * 2 ^ 52 + f) % 2 ^ 52 = f := by omega
 rw [if_neg h1, h2, h3, Nat.add_sub_cancel]
theorem F_norm (t f : Nat) (hf : f < 2 ^ 52) (ht : t ≤ 2045) : F (2 ^ 52 + f) t = (t + 1) * 2 ^ 52 + f := (F_of _ _ _ (by omega) (wval_norm t f hf)).symm
theorem F_sub (f : Nat) (hf : f < 2 ^ 52) : F f 0 = f := (F_of f f 0 (by omega) (by rw [wval, if_pos hf, Nat.pow_zero, Nat.mul_one])).symm
theorem two_read : double.read 4611686018427387904 = .number false (2 ^ 52) (((1 : Nat) : Int) - 52) := by decide
theorem p52_read : double.read 4841369599423283200 = .number false (2 ^ 52) (((52 : Nat) : Int) - 52) := by decide
theorem two_F : 4611686018427387904 = F (2 ^ 52) 1023 := (F_norm 1023 0 (by omega) (by omega)).symm
theorem one_F : 4607182418800017408 = F (2 ^ 52) 1022 := (F_norm 1022 0 (by omega) (by omega)).symm
theorem p52_F : 4841369599423283200 = F (2 ^ 52) 1074 := (F_norm 1074 0 (by omega) (by omega)).symm
theorem half_F (c j : Nat) (hc : c < 2 ^ 53) (hj : j + 1 ≤ 2045) : double.div (F c (j + 1)) 4611686018427387904 = some (F c j) := by
 refine half_exact false 4611686018427387904 (F c (j + 1)) (F c j) 1 two_read (F_lt _ _ hc hj) (F_lt _ _ hc (by omega)) ?_
 rw [F_wval _ _ hc hj, F_wval _ _ hc (by omega), Nat.pow_succ, Nat.pow_one, Nat.mul_assoc]
theorem cut_F (c j : Nat) (hc : c < 2 ^ 53) (hj : j + 52 ≤ 2045) : double.div (F c (j + 52)) 4841369599423283200 = some (F c j) := by
 refine half_exact false 4841369599423283200 (F c (j + 52)) (F c j) 52 p52_read (F_lt _ _ hc hj) (F_lt _ _ hc (by omega)) ?_
 rw [F_wval _ _ hc hj, F_wval _ _ hc (by omega), Nat.pow_add, Nat.mul_assoc]
theorem pw (c j a b k d : Nat) (h : j + a + b = k + d) : c * 2 ^ j * (2 ^ a * 2 ^ b) = c * 2 ^ k * 2 ^ d := by
 rw [← Nat.pow_add, Nat.mul_assoc, Nat.mul_assoc, ← Nat.pow_add, ← Nat.pow_add, ← Nat.add_assoc, h]
theorem decode_eq (b : Nat) : FloatKind.f64.decode b = double.read b := rfl
theorem double_F (c j : Nat) (hc : c < 2 ^ 53) (hj : j + 1 ≤ 2045) : double.mul (F c j) 4611686018427387904 = some (F c (j + 1)) := by
 have := mul_exact false false (F c j) (F (2 ^ 52) 1023) (F c (j + 1)) (F_lt _ _ hc (by omega)) (F_lt _ _ (by omega) (by omega)) (F_lt _ _ hc hj) (by
  rw [F_wval _ _ hc hj, F_wval _ _ hc (by omega), F_wval _ _ (by omega) (by omega)]
  exact pw c j 52 1023 (j + 1) 1074 (by omega))
 rw [← two_F] at this
 exact this
theorem lift_F (c j : Nat) (hc : c < 2 ^ 53) (hj : j + 52 ≤ 2045) : double.mul (F c j) 4841369599423283200 = some (F c (j + 52)) := by
 have := mul_exact false false (F c j) (F (2 ^ 52) 1074) (F c (j + 52)) (F_lt _ _ hc (by omega)) (F_lt _ _ (by omega) (by omega)) (F_lt _ _ hc hj) (by
  rw [F_wval _ _ hc hj, F_wval _ _ hc (by omega), F_wval _ _ (by omega) (by omega)]
  exact pw c j 52 1074 (j + 52) 1074 (by omega))
 rw [← p52_F] at this
 exact this
theorem less_F (f : Nat) (hf : f < 2 ^ 52) : double.sub (F (2 ^ 52 + f) 1022) 4607182418800017408 = some (F f 1022) := by
 rw [one_F]
 refine sub_exact _ _ _ (F_lt _ _ (by omega) (by omega)) (F_lt _ _ (by omega) (by omega)) (F_lt _ _ (by omega) (by omega)) ?_
 rw [F_wval _ _ (by omega) (by omega), F_wval _ _ (by omega) (by omega), F_wval _ _ (by omega) (by omega), Nat.add_mul]
theorem int_of (x n : Nat) (h : (double.read x).toInt .zero = some (n : Int)) (hn : n < 18446744073709551616) : floatToIntVal .f64 x .u64 = some (n : Int) := by
 rw [← decode_eq] at h
 unfold floatToIntVal
 rw [h]
 have e1 : IntKind.u64.min = 0 := by decide
 have e2 : IntKind.u64.max = 18446744073709551615 := by decide
 simp only [e1, e2]
 rw [if_pos (by omega)]
theorem int_F (f : Nat) (hf : f < 2 ^ 52) : floatToIntVal .f64 (F f 1074) .u64 = some (f : Int) :=
 int_of _ _ (toInt_exact (F f 1074) (F_lt _ _ (by omega) (by omega)) f (F_wval _ _ (by omega) (by omega))) (by omega)
theorem of_F (f : Nat) (hf : f < 2 ^ 53) : floatOfInt .f64 (f : Int) = F f 1074 := by
 unfold floatOfInt FloatKind.nearest FloatKind.encode
 have hn : decide ((f : Int) < 0) = false := decide_eq_false (by omega)
 rw [hn, Int.natAbs_natCast]
 exact write_by false f 0 (F f 1074) 1074 0 (F_lt _ _ hf (by omega)) (by omega) (by rw [F_wval _ _ hf (by omega), Nat.pow_zero, Nat.mul_one])
end Go.Proofs.Ytphmlndkjgldkaa
/- The contracts of the program's FloatBits, FloatOf, FloatRank, FloatUnrank and FloatCompare. For every argument. -/







namespace Go.Proofs.Ytphmlndkjgldkaa
open Go.RowKit
theorem isNaN_walk (x : Nat) (hx : x < 18446744073709551616) (w : World) :
 Calls Try.prog 127 #[.float .f64 x] w fun e w' => e = .returned (.bool (isN x)) ∧ w' = w := by
 by_cases hn : isN x = true
 · have o := order_l x x hx hn
   go_enter Try.func127, Try.ntmps127
   go_wp2
   go_ret
   exact ⟨by rw [hn]; rfl, rfl⟩
 · have hn' : isN x = false := by simpa using hn
   have o := order_eq x x hx hx hn' hn' rfl
   go_enter Try.func127, Try.ntmps127
   go_wp2
   go_ret
   exact ⟨by rw [hn']; rfl, rfl⟩
theorem bits_run (x : Nat) (w : World) : (callFunc 128 #[.float .f64 x]).run Try.prog w = .ok (.value (.int .u64 x)) w := by
 rw [run_callFunc_extern (P := Try.prog) Try.func128 (by kernel_rfl) (by kernel_rfl) (by kernel_rfl) (e := Extern.MathFloatBits.float64bits) (by kernel_rfl)]
 rfl
theorem impl_FloatBits (x : Nat) (hx : x < 18446744073709551616) (w : World) :
 Calls Try.prog 113 #[.float .f64 x] w fun e w' => e = .returned (.int .u64 (fbits x)) ∧ w' = w := by
 have hb := bits_run x
 by_cases hn : isN x = true
 · have ef : fbits x = 9221120237041090560 := by rw [fbits, if_pos hn]
   go_enter Try.func113, Try.ntmps113
   go_wp2_with fail
   refine (isNaN_walk x hx w).mono ?_
   rintro e w1 ⟨rfl, rfl⟩
   go_wp2_with fail
   go_ret
   exact ⟨by rw [ef]; rfl, rfl⟩
 · have hn' : isN x = false := by simpa using hn
   have ef : fbits x = x := by rw [fbits, if_neg hn]
   go_enter Try.func113, Try.ntmps113
   go_wp2_with fail
   refine (isNaN_walk x hx w).mono ?_
   rintro e w1 ⟨rfl, rfl⟩
   go_wp2_with fail
   go_ret
   exact ⟨by rw [ef]; rfl, rfl⟩
theorem not64 (x : Nat) (h : x < 18446744073709551616) : bits .xor .u64 IntKind.u64.max (x : Int) = ((18446744073709551615 - x : Nat) : Int) := by
 have e : IntKind.u64.max = ((18446744073709551615 : Nat) : Int) := by decide
 rw [e, u64_xor_nat _ _ (by omega) h]
 congr 1
 have h1 : (BitVec.allOnes 64 ^^^ BitVec.ofNat 64 x).toNat = 18446744073709551615 ^^^ x := by
  rw [BitVec.toNat_xor, BitVec.toNat_allOnes, BitVec.toNat_ofNat, Nat.mod_eq_of_lt h]
 rw [← h1, BitVec.allOnes_xor, BitVec.toNat_not, BitVec.toNat_ofNat, Nat.mod_eq_of_lt h]
theorem kx_zero : kx 0 = 0 := rfl
theorem isN_zero : isN 0 = false := by decide
theorem impl_FloatRank (x : Nat) (hx : x < 18446744073709551616) (w : World) :
 Calls Try.prog 131 #[.float .f64 x] w fun e w' => e = .returned (.int .u64 (frank x)) ∧ w' = w := by
 by_cases hn : isN x = true
 · have ef : frank x = 18446744073709551615 := by rw [frank, if_pos hn]
   go_enter Try.func131, Try.ntmps131
   go_wp2_with fail
   refine (isNaN_walk x hx w).mono ?_
   rintro e w1 ⟨rfl, rfl⟩
   go_wp2_with fail
   go_ret
   exact ⟨by rw [ef]; rfl, rfl⟩
 · have hn' : isN x = false := by simpa using hn
   have hm := (isN_not x).1 hn'
   have eb : fbits x = x := by rw [fbits, if_neg hn]
   by_cases h0 : x % 9223372036854775808 = 0
   · have ef : frank x = 9223372036854775808 := by rw [frank, if_neg hn, if_pos h0]
     have o := order_eq x 0 hx (by omega) hn' isN_zero (by rw [kx_zero, kx]; split <;> omega)
     go_enter Try.func131, Try.ntmps131
     go_wp2_with fail
     refine (isNaN_walk x hx w).mono ?_
     rintro e w1 ⟨rfl, rfl⟩
     go_wp2_with fail
     go_ret
     exact ⟨by rw [ef]; rfl, rfl⟩
   · by_cases hs : x < 9223372036854775808
     · have ef := hid (show frank x = x + 9223372036854775808 by rw [frank, if_neg hn, if_neg h0, if_pos hs])
       have o := order_gt x 0 hx (by omega) hn' isN_zero (by rw [kx_zero, kx]; split <;> omega)
       go_enter Try.func131, Try.ntmps131
       go_wp2_with fail
       refine (isNaN_walk x hx w).mono ?_
       rintro e w1 ⟨rfl, rfl⟩
       go_wp2_with fail
       refine (impl_FloatBits x hx _).mono ?_
       rintro e w1 ⟨rfl, rfl⟩
       rw [eb]
       go_wp2_with fail
       go_ret
       exact ⟨by rw [ef.out]; rfl, rfl⟩
     · have ef := hid (show frank x = 18446744073709551615 - x by rw [frank, if_neg hn, if_neg h0, if_neg hs])
       have o := order_lt x 0 hx (by omega) hn' isN_zero (by rw [kx_zero, kx]; split <;> omega)
       have hnot := not64 x hx
       go_enter Try.func131, Try.ntmps131
       go_wp2_with fail
       refine (isNaN_walk x hx w).mono ?_
       rintro e w1 ⟨rfl, rfl⟩
       go_wp2_with fail
       refine (impl_FloatBits x hx _).mono ?_
       rintro e w1 ⟨rfl, rfl⟩
       rw [eb]
       go_wp2_with fail
       go_ret
       exact ⟨by rw [ef.out]; rfl, rfl⟩
def cmp3 (x y : Nat) : Int := if x < y then -1 else if y < x then 1 else 0
theorem isNaN64 (x : Nat) (w : World) : Calls Try.prog 135 #[.int .u64 x] w fun e w' => e = .returned (.bool false) ∧ w' = w := by
 go_enter Try.func135, Try.ntmps135
 go_wp2
 go_ret
 exact ⟨rfl, rfl⟩
theorem cmp_walk (x y : Nat) (w : World) : Calls Try.prog 130 #[.int .u64 x, .int .u64 y] w fun e w' => e = .returned (.int .i64 (cmp3 x y)) ∧ w' = w := by
 rcases Nat.lt_trichotomy x y with h | h | h
 · have ec : cmp3 x y = -1 := by rw [cmp3, if_pos h]
   have h1 : (x : Int) < y := by omega
   go_enter Try.func130, Try.ntmps130
   go_wp2_with fail
   refine (isNaN64 x _).mono ?_
   rintro e w1 ⟨rfl, rfl⟩
   go_wp2_with fail
   refine (isNaN64 y _).mono ?_
   rintro e w1 ⟨rfl, rfl⟩
   go_wp2_with fail
   go_ret
   exact ⟨by rw [ec]; rfl, rfl⟩
 · have ec : cmp3 x y = 0 := by rw [cmp3, if_neg (by omega), if_neg (by omega)]
   subst h
   go_enter Try.func130, Try.ntmps130
   go_wp2_with fail
   refine (isNaN64 x _).mono ?_
   rintro e w1 ⟨rfl, rfl⟩
   go_wp2_with fail
   refine (isNaN64 x _).mono ?_
   rintro e w1 ⟨rfl, rfl⟩
   go_wp2_with fail
   go_ret
   exact ⟨by rw [ec]; rfl, rfl⟩
 · have ec : cmp3 x y = 1 := by rw [cmp3, if_neg (by omega), if_pos h]
   have h1 : (y : Int) < x := by omega
   go_enter Try.func130, Try.ntmps130
   go_wp2_with fail
   refine (isNaN64 x _).mono ?_
   rintro e w1 ⟨rfl, rfl⟩
   go_wp2_with fail
   refine (isNaN64 y _).mono ?_
   rintro e w1 ⟨rfl, rfl⟩
   go_wp2_with fail
   go_ret
   exact ⟨by rw [ec]; rfl, rfl⟩
theorem impl_FloatCompare (x y : Nat) (hx : x < 18446744073709551616) (hy : y < 18446744073709551616) (w : World) :
 Calls Try.prog 121 #[.float .f64 x, .float .f64 y] w fun e w' => e = .returned (.int .i64 (cmp3 (frank x) (frank y))) ∧ w' = w := by
 go_enter Try.func121, Try.ntmps121
 go_wp2_with fail
 refine (impl_FloatRank x hx _).mono ?_
 rintro e w1 ⟨rfl, rfl⟩
 go_wp2_with fail
 refine (impl_FloatRank y hy _).mono ?_
 rintro e w1 ⟨rfl, rfl⟩
 go_wp2_with fail
 refine (cmp_walk _ _ _).mono ?_
 rintro e w1 ⟨rfl, rfl⟩
 go_wp2_with fail
 go_ret
 exact ⟨rfl, rfl⟩
end Go.Proofs.Ytphmlndkjgldkaa
/- The contract of the specification's FloatBits: it answers 'fbits', and leaves memory as it was. For every argument. -/


namespace Go.Proofs.Ytphmlndkjgldkaa
open Go.RowKit Ieee
theorem kpos (a : Nat) (h : a ≤ 9218868437227405312) : a < 18446744073709551616 ∧ isN a = false ∧ kx a = a := by
 refine ⟨by omega, (isN_not a).2 (by omega), ?_⟩
 rw [kx, if_pos (by omega)]
theorem olt (a b : Nat) (ha : a ≤ 9218868437227405312) (hb : b ≤ 9218868437227405312) (h : a < b) : FloatKind.f64.format.order a b = some .lt :=
 order_lt a b (kpos a ha).1 (kpos b hb).1 (kpos a ha).2.1 (kpos b hb).2.1 (by rw [(kpos a ha).2.2, (kpos b hb).2.2]; omega)
theorem ogt (a b : Nat) (ha : a ≤ 9218868437227405312) (hb : b ≤ 9218868437227405312) (h : b < a) : FloatKind.f64.format.order a b = some .gt :=
 order_gt a b (kpos a ha).1 (kpos b hb).1 (kpos a ha).2.1 (kpos b hb).2.1 (by rw [(kpos a ha).2.2, (kpos b hb).2.2]; omega)
theorem oeq (a : Nat) (ha : a ≤ 9218868437227405312) : FloatKind.f64.format.order a a = some .eq :=
 order_eq a a (kpos a ha).1 (kpos a ha).1 (kpos a ha).2.1 (kpos a ha).2.1 rfl
theorem dval (r : Nat) (h : r < 9218868437227405312) (h1 : 4503599627370496 ≤ r) : ∃ t f, f < 2 ^ 52 ∧ t ≤ 2045 ∧ r = (t + 1) * 2 ^ 52 + f ∧ r = F (2 ^ 52 + f) t := by
 refine ⟨r / 4503599627370496 - 1, r % 4503599627370496, by omega, by omega, by omega, ?_⟩
 rw [F_norm _ _ (by omega) (by omega)]
 omega
theorem half_r (r : Nat) (h1 : 4611686018427387904 ≤ r) (h2 : r < 9218868437227405312) : floatBits .quo .f64 r 4611686018427387904 = some (r - 4503599627370496) := by
 obtain ⟨t, f, hf, ht, e1, e2⟩ := dval r h2 (by omega)
 obtain ⟨u, rfl⟩ : ∃ u, t = u + 1 := ⟨t - 1, by omega⟩
 have := half_F (2 ^ 52 + f) u (by omega) (by omega)
 rw [← e2, F_norm u f hf (by omega)] at this
 rw [show r - 4503599627370496 = (u + 1) * 2 ^ 52 + f by omega]
 exact this
theorem F_suc (c j : Nat) (hc : c < 2 ^ 53) (hj : j + 1 ≤ 2045) : wval (F c (j + 1)) = wval (F c j) * 2 := by
 rw [F_wval _ _ hc hj, F_wval _ _ hc (by omega), Nat.pow_succ, Nat.mul_assoc]
theorem two_F' : 4611686018427387904 = F (2 ^ 52) (1022 + 1) := (F_norm (1022 + 1) 0 (by omega) (by omega)).symm
theorem wval_le (a b : Nat) (h : wval a < wval b) : a < b := by
 rcases Nat.lt_or_ge a b with h' | h'
 · exact h'
 · rcases Nat.lt_or_eq_of_le h' with h'' | h''
   · have := wval_lt b a h''; omega
   · subst h''; omega
theorem dbl_r (r : Nat) (h : r < 4607182418800017408) : ∃ q, floatBits .mul .f64 r 4611686018427387904 = some q ∧ wval q = wval r * 2 ∧ q < 4611686018427387904 := by
 have main : ∃ c j, c < 2 ^ 53 ∧ j + 1 ≤ 2045 ∧ r = F c j := by
  by_cases h1 : 4503599627370496 ≤ r
  · obtain ⟨t, f, hf, ht, e1, e2⟩ := dval r (by omega) h1
    exact ⟨2 ^ 52 + f, t, by omega, by omega, e2⟩
  · exact ⟨r, 0, by omega, by omega, (F_sub r (by omega)).symm⟩
 obtain ⟨c, j, hc, hj, e⟩ := main
 have hm := double_F c j hc hj
 rw [← e] at hm
 have hv : wval (F c (j + 1)) = wval r * 2 := by
  rw [e, F_wval _ _ hc hj, F_wval _ _ hc (by omega), Nat.pow_succ, Nat.mul_assoc]
 refine ⟨_, hm, hv, ?_⟩
 apply wval_le
 rw [hv]
 have h1 : wval r < wval 4607182418800017408 := wval_lt _ _ h
 have h2 : wval 4611686018427387904 = wval 4607182418800017408 * 2 := by
  rw [two_F', one_F]
  exact F_suc _ _ (by omega) (by omega)
 omega
theorem top_r (r k j q : Nat) (hq1 : 4607182418800017408 ≤ q) (hq2 : q < 4611686018427387904) (hj : j ≤ 1022)
 (h : (k = 0 ∧ wval q = wval r * 2 ^ j) ∨ (j = 0 ∧ r = q + k * 4503599627370496)) :
 ∃ f : Nat, f < 4503599627370496 ∧ r = (k + 1023 - j) * 4503599627370496 + f ∧ floatBits .sub .f64 q 4607182418800017408 = some (F f 1022) ∧ floatBits .mul .f64 (F f 1022) 4841369599423283200 = some (F f 1074) ∧ floatToIntVal .f64 (F f 1074) .u64 = some (f : Int) := by
 refine ⟨q - 4607182418800017408, by omega, ?_, ?_, lift_F _ 1022 (by omega) (by omega), int_F _ (by omega)⟩
 · rcases h with ⟨rfl, h⟩ | ⟨rfl, h⟩
   · obtain ⟨t, ht⟩ : ∃ t, 1023 - j = t + 1 := ⟨1022 - j, by omega⟩
     have e1 : wval q = (2 ^ 52 + (q - 4607182418800017408)) * 2 ^ 1022 := by
      have e0 := wval_norm 1022 (q - 4607182418800017408) (by omega)
      rwa [show (1022 + 1) * 2 ^ 52 + (q - 4607182418800017408) = q by omega] at e0
     have e2 := wval_norm t (q - 4607182418800017408) (by omega)
     have e3 : (2 : Nat) ^ 1022 = 2 ^ t * 2 ^ j := by rw [show (1022 : Nat) = t + j by omega, Nat.pow_add]
     rw [e1, e3, ← Nat.mul_assoc, ← e2] at h
     have := wval_inj _ _ (Nat.eq_of_mul_eq_mul_right (Nat.two_pow_pos j) h)
     rw [← this]
     omega
   · omega
 · have hs := less_F (q - 4607182418800017408) (by omega)
   rw [F_norm _ _ (by omega) (by omega)] at hs
   rw [show (1022 + 1) * 2 ^ 52 + (q - 4607182418800017408) = q by omega] at hs
   exact hs
theorem low_r (r q : Nat) (hq : q < 4607182418800017408) (h : wval q = wval r * 2 ^ 1022) :
 r < 4503599627370496 ∧ floatBits .mul .f64 q 4841369599423283200 = some (F r 1074) ∧ floatToIntVal .f64 (F r 1074) .u64 = some (r : Int) := by
 have h1 : wval q < wval 4607182418800017408 := wval_lt _ _ hq
 have h2 : wval 4607182418800017408 = wval 4503599627370496 * 2 ^ 1022 := by
  rw [one_F, F_wval _ _ (by omega) (by omega), show wval 4503599627370496 = 2 ^ 52 by decide]
 have hlt : r < 4503599627370496 := by
  apply wval_le
  rw [h, h2] at h1
  exact Nat.lt_of_mul_lt_mul_right h1
 have hv : wval r = r := by rw [wval, if_pos hlt]
 rw [hv] at h
 have e : q = F r 1022 := F_of q r 1022 (by omega) h
 refine ⟨hlt, ?_, int_F r hlt⟩
 rw [e]
 exact lift_F r 1022 (by omega) (by omega)
end Go.Proofs.Ytphmlndkjgldkaa
/- The contract of the specification's FloatBits: it answers 'fbits', and leaves memory as it was. For every argument. -/

namespace Go.Proofs.Ytphmlndkjgldkaa
open Go.RowKit Ieee
def fl : Value → Nat
 | .float _ b => b
 | _ => 0
theorem or_pos (x : Nat) (h : x < 9223372036854775808) : bits .or .u64 0 (x : Int) = ((x : Nat) : Int) := by
 have := u64_or_nat 0 x (by omega) (by omega)
 rw [Nat.zero_or] at this
 exact this
theorem or_neg (x : Nat) (h : x < 9223372036854775808) : bits .or .u64 9223372036854775808 (x : Int) = ((9223372036854775808 + x : Nat) : Int) := by
 have := u64_or_nat 9223372036854775808 x (by omega) (by omega)
 rw [nat_join 63 _ _ (by decide) (by omega)] at this
 exact this
theorem or_low (s e f : Nat) (hs : s = 0 ∨ s = 9223372036854775808) (he : e < 2048) (hf : f < 4503599627370496) : bits .or .u64 ((s + e * 4503599627370496 : Nat) : Int) (f : Int) = ((s + (e * 4503599627370496 + f) : Nat) : Int) := by
 rw [u64_or_nat _ _ (by omega) (by omega), nat_join 52 _ _ (by omega) (by omega), Nat.add_assoc]
theorem top_pos (r k j f : Nat) (hj : j ≤ 1022) (hk : k ≤ 1023) (hf : f < 4503599627370496) (e : r = (k + 1023 - j) * 4503599627370496 + f) :
 bits .or .u64 (bits .or .u64 0 (((k : Int) - j + 1023) * 4503599627370496)) (f : Int) = (r : Int) := by
 rw [show ((k : Int) - j + 1023) * 4503599627370496 = (((k + 1023 - j) * 4503599627370496 : Nat) : Int) by omega, or_pos _ (by omega)]
 have := or_low 0 (k + 1023 - j) f (.inl rfl) (by omega) hf
 rw [Nat.zero_add, Nat.zero_add, ← e] at this
 exact this
theorem top_neg (r k j f : Nat) (hj : j ≤ 1022) (hk : k ≤ 1023) (hf : f < 4503599627370496) (e : r = (k + 1023 - j) * 4503599627370496 + f) :
 bits .or .u64 (bits .or .u64 9223372036854775808 (((k : Int) - j + 1023) * 4503599627370496)) (f : Int) = ((9223372036854775808 + r : Nat) : Int) := by
 rw [show ((k : Int) - j + 1023) * 4503599627370496 = (((k + 1023 - j) * 4503599627370496 : Nat) : Int) by omega, or_neg _ (by omega)]
 rw [or_low 9223372036854775808 (k + 1023 - j) f (.inr rfl) (by omega) hf, ← e]
theorem neg_bits (r : Nat) (h : r < 9223372036854775808) : Op.negFloat .f64 (9223372036854775808 + r) = r := by
 unfold Op.negFloat
 rw [show 2 ^ (FloatKind.f64.format.exponentBits + FloatKind.f64.format.fractionBits) = 2 ^ 63 from rfl]
 have e : 9223372036854775808 + r = 2 ^ 63 ||| r := (nat_join 63 _ _ (by decide) (by omega)).symm
 rw [e]
 apply Nat.eq_of_testBit_eq
 intro i
 rw [Nat.testBit_xor, Nat.testBit_or, Nat.testBit_two_pow]
 by_cases hi : 63 = i
 · subst hi
   rw [Nat.testBit_lt_two_pow h]
   rfl
 · simp [hi]
theorem neg_run (x y : Nat) (h : Op.negFloat .f64 x = y) (w : World) : (Op.unary .neg (.float .f64 x)).run Try.prog w = .ok (.float .f64 y) w := by
 subst h
 rfl
set_option maxRecDepth 100000 in
set_option maxHeartbeats 1600000 in
theorem spec_FloatBits_pos (r : Nat) (h0 : 0 < r) (h1 : r < 9218868437227405312) (w : World) :
 Calls Try.prog 51 #[.float .f64 (r)] w fun e w' => e = .returned (.int .u64 ((r : Nat) : Int)) ∧ w' = w := by
 have o1 := oeq r (by omega)
 have o3 := ogt r 0 (by omega) (by omega) h0
 have o4 : FloatKind.f64.format.order r 9218868437227405311 = some .lt ∨ FloatKind.f64.format.order r 9218868437227405311 = some .eq := by
  by_cases h : r = 9218868437227405311
  · exact .inr (by rw [h]; exact oeq _ (by omega))
  · exact .inl (olt _ _ (by omega) (by omega) (by omega))
 have H0 := hid h0
 have H1 := hid h1
 clear h0 h1
 rcases o4 with o4 | o4
 all_goals
  go_enter Try.func51, Try.ntmps51
  go_wp2
  clear o1 o3 o4
  go_loopw [4, 5] (fun a e wr => ∃ q k : Nat, a = .float .f64 q ∧ e = .int .i64 k ∧ Hid (r = q + k * 4503599627370496) ∧ Hid (k = 0 ∨ 4607182418800017408 ≤ q) ∧ Hid (k ≤ 1023) ∧ wr = w) (fun a _ _ => fl a)
  case atStart => exact ⟨r, 0, rfl, rfl, hid (by omega), hid (.inl rfl), hid (by omega), rfl⟩
  case round =>
   obtain ⟨q, k, rfl, rfl, P1, P2, P3, rfl⟩ := hrel
   have hq : q < 9218868437227405312 := by have := P1.out; have := H1.out; omega
   by_cases hge : 4611686018427387904 ≤ q
   · obtain ⟨p, hp, ep⟩ : ∃ p, floatBits .quo .f64 q 4611686018427387904 = some p ∧ Hid (q = p + 4503599627370496) := ⟨_, half_r q hge hq, hid (by omega)⟩
     have hd := fun t w => run_float_arith (P := Try.prog) w .quo t .f64 q 4611686018427387904 _ hp
     have oo : FloatKind.f64.format.order q 4611686018427387904 = some .gt ∨ FloatKind.f64.format.order q 4611686018427387904 = some .eq := by
      by_cases h : q = 4611686018427387904
      · exact .inr (by rw [h]; exact oeq _ (by omega))
      · exact .inl (ogt _ _ (by omega) (by omega) (by omega))
     have Q1 := hid hge
     have Q2 := hid hq
     have hk : (k : Int) ≤ 1023 := by have := P3.out; omega
     clear hge hq hp
     rcases oo with oo | oo
     all_goals
      go_wp2
      go_roundw
      case rel => exact ⟨p, k + 1, rfl, by go_num, hid (by have := P1.out; have := ep.out; omega), hid (.inr (by have := Q1.out; have := ep.out; omega)), hid (by have := P1.out; have := P3.out; have := Q1.out; have := H1.out; omega), by first | trivial | rfl⟩
      case measure => have := ep.out; simp only [fl]; omega
   · have oo := olt q 4611686018427387904 (by omega) (by omega) (by omega)
     have Q1 := hid hge
     have Q2 := hid hq
     have hk : (k : Int) ≤ 1023 := by have := P3.out; omega
     clear hge hq
     go_wp2
     clear oo
     go_loopw [4, 5] (fun a e wr' => ∃ p j : Nat, a = .float .f64 p ∧ e = .int .i64 ((k : Int) - j) ∧ Hid ((k = 0 ∧ wval p = wval q * 2 ^ j) ∨ (j = 0 ∧ p = q ∧ 4607182418800017408 ≤ q)) ∧ Hid (p < 4611686018427387904) ∧ Hid (j ≤ 1022) ∧ wr' = wr) (fun _ e _ => (intOf e + 1022).toNat)
     case atStart => exact ⟨q, 0, rfl, by go_num, hid (by
      rcases P2.out with h | h
      · exact .inl ⟨h, by rw [Nat.pow_zero, Nat.mul_one]⟩
      · exact .inr ⟨rfl, rfl, h⟩), hid (by have := Q1.out; omega), hid (by omega), rfl⟩
     case round =>
      obtain ⟨p, j, rfl, rfl, R1, R2, R3, rfl⟩ := hrel
      have hj : (j : Int) ≤ 1022 := by have := R3.out; omega
      by_cases hlt : p < 4607182418800017408
      · have R1' : Hid (k = 0 ∧ wval p = wval q * 2 ^ j) := by
         rcases R1.out with h | h
         · exact h
         · exact absurd h.2.2 (by have := h.2.1; omega)
        have ol := olt p 4607182418800017408 (by omega) (by omega) hlt
        have hk0 : (k : Int) = 0 := by have := R1'.out.1; omega
        by_cases h22 : j = 1022
        · obtain ⟨a1, a2, a3⟩ := low_r q p hlt (by have := R1'.out.2; rw [h22] at this; exact this)
          have hm := fun t w => run_float_arith (P := Try.prog) w .mul t .f64 p 4841369599423283200 _ a2
          have hc := fun w => run_convert_float_int (P := Try.prog) w 30 71 .f64 .u64 _ (q : Int) (by rw [Try.underlying30]; rfl) Try.underlying71 a3
          have hor := or_pos q (by omega)
          have ht : ¬ (-1022 : Int) < (k : Int) - j := by omega
          have A1 := hid (show r = q by have := P1.out; have := R1'.out.1; subst this; omega)
          generalize F q 1074 = y at *
          clear a1 a2 a3 hlt h22 hk0
          go_wp2
          go_ret
          exact ⟨by rw [A1.out]; rfl, rfl⟩
        · obtain ⟨p', b1, b2, b3⟩ := dbl_r p hlt
          have hm := fun t w => run_float_arith (P := Try.prog) w .mul t .f64 p 4611686018427387904 _ b1
          have ht : (-1022 : Int) < (k : Int) - j := by omega
          have B2 := hid b2
          have B3 := hid b3
          have H22 := hid h22
          clear b1 b2 b3 hlt h22 hk0
          go_wp2
          go_roundw
          case rel => exact ⟨p', j + 1, rfl, by go_num, hid (.inl ⟨R1'.out.1, by rw [B2.out, R1'.out.2, Nat.pow_succ, Nat.mul_assoc]⟩), B3, hid (by have := R3.out; have := H22.out; omega), by first | trivial | rfl⟩
          case measure => simp [intOf]; omega
      · obtain ⟨f, c1, c2, c3, c4, c5⟩ := top_r r k j p (by omega) R2.out R3.out (by
         rcases R1.out with h | h
         · refine .inl ⟨h.1, ?_⟩
           have := P1.out
           rw [h.1, Nat.zero_mul, Nat.add_zero] at this
           rw [this]
           exact h.2
         · exact .inr ⟨h.1, by rw [h.2.1]; exact P1.out⟩)
        have oo : FloatKind.f64.format.order p 4607182418800017408 = some .gt ∨ FloatKind.f64.format.order p 4607182418800017408 = some .eq := by
         have := R2.out
         by_cases h : p = 4607182418800017408
         · exact .inr (by rw [h]; exact oeq _ (by omega))
         · exact .inl (ogt _ _ (by omega) (by omega) (by omega))
        have hs := fun t w => run_float_arith (P := Try.prog) w .sub t .f64 p 4607182418800017408 _ c3
        have hm := fun t w => run_float_arith (P := Try.prog) w .mul t .f64 _ 4841369599423283200 _ c4
        have hc := fun w => run_convert_float_int (P := Try.prog) w 30 71 .f64 .u64 _ (f : Int) (by rw [Try.underlying30]; rfl) Try.underlying71 c5
        have hk0 : (0 : Int) ≤ (k : Int) := by omega
        have hj0 : (0 : Int) ≤ (j : Int) := by omega
        have C1 := hid c1
        have C2 := hid c2
        generalize F f 1022 = y at *
        generalize F f 1074 = y' at *
        clear c1 c2 c3 c4 c5 hlt
        rcases oo with oo | oo
        all_goals
         go_wp2
         go_ret
         exact ⟨by rw [← top_pos r k j f R3.out P3.out C1.out C2.out]; rfl, rfl⟩
set_option maxRecDepth 100000 in
set_option maxHeartbeats 1600000 in
theorem spec_FloatBits_neg (r : Nat) (h0 : 0 < r) (h1 : r < 9218868437227405312) (w : World) :
 Calls Try.prog 51 #[.float .f64 (9223372036854775808 + r)] w fun e w' => e = .returned (.int .u64 ((9223372036854775808 + r : Nat) : Int)) ∧ w' = w := by
 have o1 : FloatKind.f64.format.order (9223372036854775808 + r) (9223372036854775808 + r) = some .eq := order_eq _ _ (by omega) (by omega) ((isN_not _).2 (by omega)) ((isN_not _).2 (by omega)) rfl
 have o2 : FloatKind.f64.format.order (9223372036854775808 + r) 0 = some .lt := order_lt _ _ (by omega) (by omega) ((isN_not _).2 (by omega)) isN_zero (by rw [kx_zero, kx, if_neg (by omega)]; omega)
 have on := neg_run (9223372036854775808 + r) r (neg_bits r (by omega))
 have o3 := ogt r 0 (by omega) (by omega) h0
 have o4 : FloatKind.f64.format.order r 9218868437227405311 = some .lt ∨ FloatKind.f64.format.order r 9218868437227405311 = some .eq := by
  by_cases h : r = 9218868437227405311
  · exact .inr (by rw [h]; exact oeq _ (by omega))
  · exact .inl (olt _ _ (by omega) (by omega) (by omega))
 have H0 := hid h0
 have H1 := hid h1
 clear h0 h1
 rcases o4 with o4 | o4
 all_goals
  go_enter Try.func51, Try.ntmps51
  go_wp2
  clear o1 o2 o3 o4 on
  go_loopw [4, 5] (fun a e wr => ∃ q k : Nat, a = .float .f64 q ∧ e = .int .i64 k ∧ Hid (r = q + k * 4503599627370496) ∧ Hid (k = 0 ∨ 4607182418800017408 ≤ q) ∧ Hid (k ≤ 1023) ∧ wr = w) (fun a _ _ => fl a)
  case atStart => exact ⟨r, 0, rfl, rfl, hid (by omega), hid (.inl rfl), hid (by omega), rfl⟩
  case round =>
   obtain ⟨q, k, rfl, rfl, P1, P2, P3, rfl⟩ := hrel
   have hq : q < 9218868437227405312 := by have := P1.out; have := H1.out; omega
   by_cases hge : 4611686018427387904 ≤ q
   · obtain ⟨p, hp, ep⟩ : ∃ p, floatBits .quo .f64 q 4611686018427387904 = some p ∧ Hid (q = p + 4503599627370496) := ⟨_, half_r q hge hq, hid (by omega)⟩
     have hd := fun t w => run_float_arith (P := Try.prog) w .quo t .f64 q 4611686018427387904 _ hp
     have oo : FloatKind.f64.format.order q 4611686018427387904 = some .gt ∨ FloatKind.f64.format.order q 4611686018427387904 = some .eq := by
      by_cases h : q = 4611686018427387904
      · exact .inr (by rw [h]; exact oeq _ (by omega))
      · exact .inl (ogt _ _ (by omega) (by omega) (by omega))
     have Q1 := hid hge
     have Q2 := hid hq
     have hk : (k : Int) ≤ 1023 := by have := P3.out; omega
     clear hge hq hp
     rcases oo with oo | oo
     all_goals
      go_wp2
      go_roundw
      case rel => exact ⟨p, k + 1, rfl, by go_num, hid (by have := P1.out; have := ep.out; omega), hid (.inr (by have := Q1.out; have := ep.out; omega)), hid (by have := P1.out; have := P3.out; have := Q1.out; have := H1.out; omega), by first | trivial | rfl⟩
      case measure => have := ep.out; simp only [fl]; omega
   · have oo := olt q 4611686018427387904 (by omega) (by omega) (by omega)
     have Q1 := hid hge
     have Q2 := hid hq
     have hk : (k : Int) ≤ 1023 := by have := P3.out; omega
     clear hge hq
     go_wp2
     clear oo
     go_loopw [4, 5] (fun a e wr' => ∃ p j : Nat, a = .float .f64 p ∧ e = .int .i64 ((k : Int) - j) ∧ Hid ((k = 0 ∧ wval p = wval q * 2 ^ j) ∨ (j = 0 ∧ p = q ∧ 4607182418800017408 ≤ q)) ∧ Hid (p < 4611686018427387904) ∧ Hid (j ≤ 1022) ∧ wr' = wr) (fun _ e _ => (intOf e + 1022).toNat)
     case atStart => exact ⟨q, 0, rfl, by go_num, hid (by
      rcases P2.out with h | h
      · exact .inl ⟨h, by rw [Nat.pow_zero, Nat.mul_one]⟩
      · exact .inr ⟨rfl, rfl, h⟩), hid (by have := Q1.out; omega), hid (by omega), rfl⟩
     case round =>
      obtain ⟨p, j, rfl, rfl, R1, R2, R3, rfl⟩ := hrel
      have hj : (j : Int) ≤ 1022 := by have := R3.out; omega
      by_cases hlt : p < 4607182418800017408
      · have R1' : Hid (k = 0 ∧ wval p = wval q * 2 ^ j) := by
         rcases R1.out with h | h
         · exact h
         · exact absurd h.2.2 (by have := h.2.1; omega)
        have ol := olt p 4607182418800017408 (by omega) (by omega) hlt
        have hk0 : (k : Int) = 0 := by have := R1'.out.1; omega
        by_cases h22 : j = 1022
        · obtain ⟨a1, a2, a3⟩ := low_r q p hlt (by have := R1'.out.2; rw [h22] at this; exact this)
          have hm := fun t w => run_float_arith (P := Try.prog) w .mul t .f64 p 4841369599423283200 _ a2
          have hc := fun w => run_convert_float_int (P := Try.prog) w 30 71 .f64 .u64 _ (q : Int) (by rw [Try.underlying30]; rfl) Try.underlying71 a3
          have hor := or_neg q (by omega)
          have ht : ¬ (-1022 : Int) < (k : Int) - j := by omega
          have A1 := hid (show r = q by have := P1.out; have := R1'.out.1; subst this; omega)
          generalize F q 1074 = y at *
          clear a1 a2 a3 hlt h22 hk0
          go_wp2
          go_ret
          exact ⟨by rw [A1.out]; rfl, rfl⟩
        · obtain ⟨p', b1, b2, b3⟩ := dbl_r p hlt
          have hm := fun t w => run_float_arith (P := Try.prog) w .mul t .f64 p 4611686018427387904 _ b1
          have ht : (-1022 : Int) < (k : Int) - j := by omega
          have B2 := hid b2
          have B3 := hid b3
          have H22 := hid h22
          clear b1 b2 b3 hlt h22 hk0
          go_wp2
          go_roundw
          case rel => exact ⟨p', j + 1, rfl, by go_num, hid (.inl ⟨R1'.out.1, by rw [B2.out, R1'.out.2, Nat.pow_succ, Nat.mul_assoc]⟩), B3, hid (by have := R3.out; have := H22.out; omega), by first | trivial | rfl⟩
          case measure => simp [intOf]; omega
      · obtain ⟨f, c1, c2, c3, c4, c5⟩ := top_r r k j p (by omega) R2.out R3.out (by
         rcases R1.out with h | h
         · refine .inl ⟨h.1, ?_⟩
           have := P1.out
           rw [h.1, Nat.zero_mul, Nat.add_zero] at this
           rw [this]
           exact h.2
         · exact .inr ⟨h.1, by rw [h.2.1]; exact P1.out⟩)
        have oo : FloatKind.f64.format.order p 4607182418800017408 = some .gt ∨ FloatKind.f64.format.order p 4607182418800017408 = some .eq := by
         have := R2.out
         by_cases h : p = 4607182418800017408
         · exact .inr (by rw [h]; exact oeq _ (by omega))
         · exact .inl (ogt _ _ (by omega) (by omega) (by omega))
        have hs := fun t w => run_float_arith (P := Try.prog) w .sub t .f64 p 4607182418800017408 _ c3
        have hm := fun t w => run_float_arith (P := Try.prog) w .mul t .f64 _ 4841369599423283200 _ c4
        have hc := fun w => run_convert_float_int (P := Try.prog) w 30 71 .f64 .u64 _ (f : Int) (by rw [Try.underlying30]; rfl) Try.underlying71 c5
        have hk0 : (0 : Int) ≤ (k : Int) := by omega
        have hj0 : (0 : Int) ≤ (j : Int) := by omega
        have C1 := hid c1
        have C2 := hid c2
        generalize F f 1022 = y at *
        generalize F f 1074 = y' at *
        clear c1 c2 c3 c4 c5 hlt
        rcases oo with oo | oo
        all_goals
         go_wp2
         go_ret
         exact ⟨by rw [← top_neg r k j f R3.out P3.out C1.out C2.out]; rfl, rfl⟩
theorem spec_FloatBits_rest (x : Nat) (w : World) (hx : x = 0 ∨ x = 9223372036854775808 ∨ x = 9218868437227405312 ∨ x = 18442240474082181120) :
 Calls Try.prog 51 #[.float .f64 x] w fun e w' => e = .returned (.int .u64 (x : Int)) ∧ w' = w := by
 have d1 := fun t w => run_float_arith (P := Try.prog) w .quo t .f64 4607182418800017408 0 9218868437227405312 (by decide)
 have d2 := fun t w => run_float_arith (P := Try.prog) w .quo t .f64 4607182418800017408 9223372036854775808 18442240474082181120 (by decide)
 have o1 : FloatKind.f64.format.order 0 0 = some .eq := by decide
 have o2 : FloatKind.f64.format.order 9223372036854775808 0 = some .eq := by decide
 have o3 : FloatKind.f64.format.order 9218868437227405312 0 = some .gt := by decide
 have o4 : FloatKind.f64.format.order 18442240474082181120 0 = some .lt := by decide
 have o5 : FloatKind.f64.format.order 9223372036854775808 9223372036854775808 = some .eq := by decide
 have o6 : FloatKind.f64.format.order 9218868437227405312 9218868437227405312 = some .eq := by decide
 have o7 : FloatKind.f64.format.order 18442240474082181120 18442240474082181120 = some .eq := by decide
 have o8 : FloatKind.f64.format.order 9218868437227405312 9218868437227405311 = some .gt := by decide
 have n1 := neg_run 9223372036854775808 0 (by decide)
 have n2 := neg_run 18442240474082181120 9218868437227405312 (by decide)
 have b1 : bits .or .u64 0 9218868437227405312 = 9218868437227405312 := or_pos 9218868437227405312 (by omega)
 have b2 : bits .or .u64 9223372036854775808 9218868437227405312 = 18442240474082181120 := or_neg 9218868437227405312 (by omega)
 rcases hx with rfl | rfl | rfl | rfl
 all_goals
  go_enter Try.func51, Try.ntmps51
  go_wp2
  go_ret
  exact ⟨rfl, rfl⟩
theorem spec_FloatBits_nan (x : Nat) (hx : x < 18446744073709551616) (hn : isN x = true) (w : World) :
 Calls Try.prog 51 #[.float .f64 x] w fun e w' => e = .returned (.int .u64 9221120237041090560) ∧ w' = w := by
 have o := order_l x x hx hn
 clear hx hn
 go_enter Try.func51, Try.ntmps51
 go_wp2
 go_ret
 exact ⟨rfl, rfl⟩
theorem spec_FloatBits (x : Nat) (hx : x < 18446744073709551616) (w : World) :
 Calls Try.prog 51 #[.float .f64 x] w fun e w' => e = .returned (.int .u64 (fbits x : Int)) ∧ w' = w := by
 by_cases hn : isN x = true
 · rw [fbits, if_pos hn]
   exact spec_FloatBits_nan x hx hn w
 · have hn' : isN x = false := by simpa using hn
   rw [isN_not] at hn'
   rw [fbits, if_neg hn]
   by_cases h4 : x = 0 ∨ x = 9223372036854775808 ∨ x = 9218868437227405312 ∨ x = 18442240474082181120
   · exact spec_FloatBits_rest x w h4
   · by_cases hp : x < 9223372036854775808
     · exact spec_FloatBits_pos x (by omega) (by omega) w
     · obtain ⟨r, rfl⟩ : ∃ r, x = 9223372036854775808 + r := ⟨x - 9223372036854775808, by omega⟩
       exact spec_FloatBits_neg r (by omega) (by omega) w
end Go.Proofs.Ytphmlndkjgldkaa
/- The contract of the specification's FloatOf: the float with the bits, or some NaN where they are a NaN's; memory stays as it was. For every argument. -/


namespace Go.Proofs.Ytphmlndkjgldkaa
open Go.RowKit Ieee
end Go.Proofs.Ytphmlndkjgldkaa
/- The contract of the specification's FloatOf: the float with the bits, or some NaN where they are a NaN's; memory stays as it was. For every argument. -/

namespace Go.Proofs.Ytphmlndkjgldkaa
open Go.RowKit Ieee
end Go.Proofs.Ytphmlndkjgldkaa
/- One float, all NaNs being one. No statement of its own; no conditions. -/

namespace Go.Proofs.Ytphmlndkjgldkaa
def Same (x y : Nat) : Prop := (isN x = true ∧ isN y = true) ∨ (isN x = false ∧ y = x)
theorem Same.refl (x : Nat) : Same x x := by
 by_cases h : isN x = true
 · exact .inl ⟨h, h⟩
 · exact .inr ⟨by simpa using h, rfl⟩
end Go.Proofs.Ytphmlndkjgldkaa
/- The contracts of the specification's FloatRank, FloatUnrank and FloatCompare and of the laws' sameFloat; the laws of chapter 2 on FloatBits, FloatOf, FloatRank, FloatUnrank, FloatCompare. For every argument. -/


namespace Go.Proofs.Ytphmlndkjgldkaa
open Go.RowKit Ieee
theorem sameFloat_walk (x y : Nat) (hx : x < 18446744073709551616) (hy : y < 18446744073709551616) (hs : Same x y) (w : World) :
 Calls Try.prog 76 #[.float .f64 x, .float .f64 y] w fun e w' => e = .returned (.bool true) ∧ w' = w := by
 rcases hs with ⟨n1, n2⟩ | ⟨n1, rfl⟩
 · have o1 := order_l x x hx n1
   have o2 := order_l y y hy n2
   clear hx hy n1 n2
   go_enter Try.func76, Try.ntmps76
   go_wp2
   go_ret
   exact ⟨rfl, rfl⟩
 · have o1 := order_eq y y hx hx n1 n1 rfl
   by_cases h0 : y % 9223372036854775808 = 0
   · have h2 : y = 0 ∨ y = 9223372036854775808 := by omega
     clear hx hy n1 h0
     have d1 := fun t w => run_float_arith (P := Try.prog) w .quo t .f64 4607182418800017408 0 9218868437227405312 (by decide)
     have d2 := fun t w => run_float_arith (P := Try.prog) w .quo t .f64 4607182418800017408 9223372036854775808 18442240474082181120 (by decide)
     have o3 : FloatKind.f64.format.order 9218868437227405312 0 = some .gt := by decide
     have o4 : FloatKind.f64.format.order 18442240474082181120 0 = some .lt := by decide
     have o5 : FloatKind.f64.format.order 9223372036854775808 0 = some .eq := by decide
     rcases h2 with rfl | rfl
     all_goals
      go_enter Try.func76, Try.ntmps76
      go_wp2
      go_ret
      exact ⟨rfl, rfl⟩
   · have hm := (isN_not y).1 n1
     have o2 : FloatKind.f64.format.order y 0 = some .lt ∨ FloatKind.f64.format.order y 0 = some .gt := by
      by_cases hp : y < 9223372036854775808
      · exact .inr (order_gt y 0 hx (by omega) n1 isN_zero (by rw [kx_zero, kx, if_pos hp]; omega))
      · exact .inl (order_lt y 0 hx (by omega) n1 isN_zero (by rw [kx_zero, kx, if_neg hp]; omega))
     clear hx hy n1 h0 hm
     rcases o2 with o2 | o2
     all_goals
      go_enter Try.func76, Try.ntmps76
      go_wp2
      go_ret
      exact ⟨rfl, rfl⟩
theorem or_top (x : Nat) (h : x < 9223372036854775808) : bits .or .u64 (x : Int) 9223372036854775808 = ((x + 9223372036854775808 : Nat) : Int) := by
 have := u64_or_nat x 9223372036854775808 (by omega) (by omega)
 rw [Nat.or_comm, nat_join 63 _ _ (by decide) (by omega), Nat.add_comm] at this
 exact this
theorem spec_FloatRank (x : Nat) (hx : x < 18446744073709551616) (w : World) :
 Calls Try.prog 83 #[.float .f64 x] w fun e w' => e = .returned (.int .u64 (frank x)) ∧ w' = w := by
 by_cases hn : isN x = true
 · have ef : frank x = 18446744073709551615 := by rw [frank, if_pos hn]
   have eb : fbits x = 9221120237041090560 := by rw [fbits, if_pos hn]
   go_enter Try.func83, Try.ntmps83
   go_wp2_with fail
   refine (spec_FloatBits x hx w).mono ?_
   rintro e w1 ⟨rfl, rfl⟩
   rw [eb]
   go_wp2_with fail
   go_ret
   exact ⟨by rw [ef]; rfl, rfl⟩
 · have hn' : isN x = false := by simpa using hn
   have hm := (isN_not x).1 hn'
   have eb : fbits x = x := by rw [fbits, if_neg hn]
   have hne : ((x : Int) == 9221120237041090560) = false := beq_eq_false_iff_ne.2 (by omega)
   by_cases h0 : x % 9223372036854775808 = 0
   · have ef : frank x = 9223372036854775808 := by rw [frank, if_neg hn, if_pos h0]
     have o := order_eq x 0 hx (by omega) hn' isN_zero (by rw [kx_zero, kx]; split <;> omega)
     clear hm h0 hn hn'
     go_enter Try.func83, Try.ntmps83
     go_wp2_with fail
     refine (spec_FloatBits x hx w).mono ?_
     rintro e w1 ⟨rfl, rfl⟩
     rw [eb]
     go_wp2_with fail
     go_ret
     exact ⟨by rw [ef]; rfl, rfl⟩
   · by_cases hs : x < 9223372036854775808
     · have ef := hid (show frank x = x + 9223372036854775808 by rw [frank, if_neg hn, if_neg h0, if_pos hs])
       have o := order_gt x 0 hx (by omega) hn' isN_zero (by rw [kx_zero, kx]; split <;> omega)
       have ht : ((x : Int) / 9223372036854775808 == 1) = false := beq_eq_false_iff_ne.2 (by omega)
       have hor := or_top x hs
       clear hm h0 hn hn' hs
       go_enter Try.func83, Try.ntmps83
       go_wp2_with fail
       refine (spec_FloatBits x hx w).mono ?_
       rintro e w1 ⟨rfl, rfl⟩
       rw [eb]
       go_wp2_with fail
       go_ret
       exact ⟨by rw [ef.out]; rfl, rfl⟩
     · have ef := hid (show frank x = 18446744073709551615 - x by rw [frank, if_neg hn, if_neg h0, if_neg hs])
       have o := order_lt x 0 hx (by omega) hn' isN_zero (by rw [kx_zero, kx]; split <;> omega)
       have ht : ((x : Int) / 9223372036854775808 == 1) = true := beq_iff_eq.2 (by omega)
       have hnot := not64 x hx
       clear hm h0 hn hn' hs
       go_enter Try.func83, Try.ntmps83
       go_wp2_with fail
       refine (spec_FloatBits x hx w).mono ?_
       rintro e w1 ⟨rfl, rfl⟩
       rw [eb]
       go_wp2_with fail
       go_ret
       exact ⟨by rw [ef.out]; rfl, rfl⟩
theorem spec_FloatCompare (x y : Nat) (hx : x < 18446744073709551616) (hy : y < 18446744073709551616) (w : World) :
 Calls Try.prog 49 #[.float .f64 x, .float .f64 y] w fun e w' => e = .returned (.int .i64 (cmp3 (frank x) (frank y))) ∧ w' = w := by
 have hrx := spec_FloatRank x hx
 have hry := spec_FloatRank y hy
 generalize frank x = a at *
 generalize frank y = b at *
 rcases Nat.lt_trichotomy a b with h | h | h
 · have ec : cmp3 a b = -1 := by rw [cmp3, if_pos h]
   have h1 : (a : Int) < b := by omega
   clear h
   go_enter Try.func49, Try.ntmps49
   go_wp2_with fail
   refine (hrx _).mono ?_
   rintro e w1 ⟨rfl, rfl⟩
   go_wp2_with fail
   refine (hry _).mono ?_
   rintro e w1 ⟨rfl, rfl⟩
   go_wp2_with fail
   go_ret
   exact ⟨by rw [ec]; rfl, rfl⟩
 · have ec : cmp3 a b = 0 := by rw [cmp3, if_neg (by omega), if_neg (by omega)]
   subst h
   go_enter Try.func49, Try.ntmps49
   go_wp2_with fail
   refine (hrx _).mono ?_
   rintro e w1 ⟨rfl, rfl⟩
   go_wp2_with fail
   refine (hry _).mono ?_
   rintro e w1 ⟨rfl, rfl⟩
   go_wp2_with fail
   go_ret
   exact ⟨by rw [ec]; rfl, rfl⟩
 · have ec : cmp3 a b = 1 := by rw [cmp3, if_neg (by omega), if_pos h]
   have h1 : (b : Int) < a := by omega
   clear h
   go_enter Try.func49, Try.ntmps49
   go_wp2_with fail
   refine (hrx _).mono ?_
   rintro e w1 ⟨rfl, rfl⟩
   go_wp2_with fail
   refine (hry _).mono ?_
   rintro e w1 ⟨rfl, rfl⟩
   go_wp2_with fail
   go_ret
   exact ⟨by rw [ec]; rfl, rfl⟩
end Go.Proofs.Ytphmlndkjgldkaa
/- Items: what is ItemOk; the contracts of the specification's ItemOk and KeyOk and of the laws' szItem, toItem, eqItem. Conditions: texts of at most 2^21 bytes where memory is made. -/


namespace Go.Proofs.Ytphmlndkjgldkaa
open Go.RowKit
def okI (K N : Int) (f n : Nat) : Bool := decide (0 ≤ K ∧ K ≤ 3 ∧ n ≤ 40 ∧ (K = 1 ∨ N = 0) ∧ (K = 2 ∨ f = 0) ∧ (K = 3 ∨ n = 0))
theorem fbits_zero (f : Nat) : fbits f = 0 ↔ f = 0 := by
 unfold fbits
 split
 · rename_i h
   constructor
   · intro h'; omega
   · intro h'; subst h'; exact absurd h (by decide)
 · exact Iff.rfl
theorem fbits_ne (f : Nat) (h : f ≠ 0) : ((fbits f : Int) != 0) = true := by
 have := fun e => h ((fbits_zero f).1 e)
 simp
 omega
set_option maxRecDepth 100000 in
set_option maxHeartbeats 1600000 in
theorem spec_ItemOk (K N : Int) (f : Nat) (ad : Option Addr) (n cap : Nat) (hf : f < 18446744073709551616) (hn : n ≤ 2097152) (w : World) :
 Calls Try.prog 48 #[.agg #[.int .i64 K, .int .i64 N, .float .f64 f, .slice ad n cap]] w fun e w' => e = .returned (.bool (okI K N f n)) ∧ Below w.heap.size w w' := by
 have hA : Below w.heap.size w (w.alloc (.cells #[.int .i64 K, .int .i64 N, .float .f64 f, .slice ad n cap] 32)) := (Below.refl _ _).alloc (Nat.le_refl _) _
 have HA := hid hA
 clear hA
 by_cases h1 : K < 0
 · rw [show okI K N f n = false from decide_eq_false (by omega)]
   go_enter Try.func48, Try.ntmps48
   go_wp2
   go_ret
   exact ⟨rfl, HA.out⟩
 by_cases h2 : 3 < K
 · rw [show okI K N f n = false from decide_eq_false (by omega)]
   go_enter Try.func48, Try.ntmps48
   go_wp2
   go_ret
   exact ⟨rfl, HA.out⟩
 by_cases h3 : 40 < n
 · rw [show okI K N f n = false from decide_eq_false (by omega)]
   have h3' : (40 : Int) < (n : Int) := by omega
   go_enter Try.func48, Try.ntmps48
   go_wp2
   go_ret
   exact ⟨rfl, HA.out⟩
 have h3' : ¬ (40 : Int) < (n : Int) := by omega
 by_cases h4 : K ≠ 1 ∧ N ≠ 0
 · rw [show okI K N f n = false from decide_eq_false (by omega)]
   have q1 : (K != 1) = true := by simp [h4.1]
   have q2 : (N != 0) = true := by simp [h4.2]
   go_enter Try.func48, Try.ntmps48
   go_wp2
   go_ret
   exact ⟨rfl, HA.out⟩
 by_cases h5 : K = 1
 · subst h5
   by_cases h6 : f = 0
   · subst h6
     have hz : fbits 0 = 0 := by decide
     by_cases h7 : n = 0
     · subst h7
       rw [show okI 1 N 0 0 = true from decide_eq_true (by omega)]
       go_enter Try.func48, Try.ntmps48
       go_wp2_with fail
       refine (spec_FloatBits 0 hf _).mono ?_
       rintro e w1 ⟨rfl, rfl⟩
       rw [hz]
       go_wp2_with fail
       go_ret
       exact ⟨rfl, HA.out⟩
     · rw [show okI 1 N 0 n = false from decide_eq_false (by omega)]
       have q7 : ((n : Int) == 0) = false := beq_eq_false_iff_ne.2 (by omega)
       go_enter Try.func48, Try.ntmps48
       go_wp2_with fail
       refine (spec_FloatBits 0 hf _).mono ?_
       rintro e w1 ⟨rfl, rfl⟩
       rw [hz]
       go_wp2_with fail
       go_ret
       exact ⟨rfl, HA.out⟩
   · rw [show okI 1 N f n = false from decide_eq_false (by omega)]
     have q6 : ((fbits f : Int) != 0) = true := fbits_ne f h6
     go_enter Try.func48, Try.ntmps48
     go_wp2_with fail
     refine (spec_FloatBits f hf _).mono ?_
     rintro e w1 ⟨rfl, rfl⟩
     go_wp2_with fail
     go_ret
     exact ⟨rfl, HA.out⟩
 have h8 : N = 0 := by omega
 subst h8
 have q1 : (K != 1) = true := by simp [h5]
 by_cases h9 : K = 2
 · subst h9
   by_cases h7 : n = 0
   · subst h7
     rw [show okI 2 0 f 0 = true from decide_eq_true (by omega)]
     go_enter Try.func48, Try.ntmps48
     go_wp2
     go_ret
     exact ⟨rfl, HA.out⟩
   · rw [show okI 2 0 f n = false from decide_eq_false (by omega)]
     have q7 : ((n : Int) == 0) = false := beq_eq_false_iff_ne.2 (by omega)
     go_enter Try.func48, Try.ntmps48
     go_wp2
     go_ret
     exact ⟨rfl, HA.out⟩
 have q9 : (K != 2) = true := by simp [h9]
 by_cases h6 : f = 0
 · subst h6
   have hz : fbits 0 = 0 := by decide
   by_cases h7 : K = 3
   · subst h7
     rw [show okI 3 0 0 n = true from decide_eq_true (by omega)]
     go_enter Try.func48, Try.ntmps48
     go_wp2_with fail
     refine (spec_FloatBits 0 hf _).mono ?_
     rintro e w1 ⟨rfl, rfl⟩
     rw [hz]
     go_wp2_with fail
     go_ret
     exact ⟨rfl, HA.out⟩
   · have h10 : K = 0 := by omega
     subst h10
     by_cases h7 : n = 0
     · subst h7
       rw [show okI 0 0 0 0 = true from decide_eq_true (by omega)]
       go_enter Try.func48, Try.ntmps48
       go_wp2_with fail
       refine (spec_FloatBits 0 hf _).mono ?_
       rintro e w1 ⟨rfl, rfl⟩
       rw [hz]
       go_wp2_with fail
       go_ret
       exact ⟨rfl, HA.out⟩
     · rw [show okI 0 0 0 n = false from decide_eq_false (by omega)]
       have q7 : ((n : Int) == 0) = false := beq_eq_false_iff_ne.2 (by omega)
       go_enter Try.func48, Try.ntmps48
       go_wp2_with fail
       refine (spec_FloatBits 0 hf _).mono ?_
       rintro e w1 ⟨rfl, rfl⟩
       rw [hz]
       go_wp2_with fail
       go_ret
       exact ⟨rfl, HA.out⟩
 · rw [show okI K 0 f n = false from decide_eq_false (by omega)]
   have q6 : ((fbits f : Int) != 0) = true := fbits_ne f h6
   go_enter Try.func48, Try.ntmps48
   go_wp2_with fail
   refine (spec_FloatBits f hf _).mono ?_
   rintro e w1 ⟨rfl, rfl⟩
   go_wp2_with fail
   go_ret
   exact ⟨rfl, HA.out⟩
def okK (K N : Int) (f n : Nat) : Bool := okI K N f n && decide (K ≠ 0 ∧ f ≠ 9223372036854775808)
end Go.Proofs.Ytphmlndkjgldkaa
/- The contracts of the laws' szItem, toItem, eqItem, and of the specification's KeyOk. Conditions: texts of at most 2^21 bytes where memory is made. -/

namespace Go.Proofs.Ytphmlndkjgldkaa
open Go.RowKit
structure Box (w : World) (g : Nat) (K N : Int) (f : Nat) (ad : Option Addr) (n cap : Nat) : Prop where
 c0 : w.cell? ⟨g, 0, none⟩ = some (.int .i64 K)
 c1 : w.cell? ⟨g, 1, none⟩ = some (.int .i64 N)
 c2 : w.cell? ⟨g, 2, none⟩ = some (.float .f64 f)
 c3 : w.cell? ⟨g, 3, none⟩ = some (.slice ad n cap)
theorem Box.new (w : World) (K N : Int) (f : Nat) (ad : Option Addr) (n cap : Nat) (t : TypeId) : Box (w.alloc (.cells #[.int .i64 K, .int .i64 N, .float .f64 f, .slice ad n cap] t)) w.heap.size K N f ad n cap := by
 have h := heap_alloc_new w (.cells #[.int .i64 K, .int .i64 N, .float .f64 f, .slice ad n cap] t)
 refine ⟨?_, ?_, ?_, ?_⟩ <;> (rw [cell_of_row _ _ _ _ _ _ h]; rfl)
theorem Box.below {w w' : World} {g : Nat} {K N : Int} {f : Nat} {ad : Option Addr} {n cap : Nat} (b : Box w g K N f ad n cap) {B : Nat} (h : Below B w w') (hB : g < B) : Box w' g K N f ad n cap :=
 ⟨(h.cell (p := ⟨g, 0, none⟩) hB).trans b.c0, (h.cell (p := ⟨g, 1, none⟩) hB).trans b.c1, (h.cell (p := ⟨g, 2, none⟩) hB).trans b.c2, (h.cell (p := ⟨g, 3, none⟩) hB).trans b.c3⟩
theorem szByteS (ad : Option Addr) (n cap : Nat) (left : Int) (hn : n ≤ 9223372036854775807) (h0 : 0 ≤ left) (h1 : left ≤ 1048576) (w : World) :
 Calls Try.prog 74 #[.slice ad n cap, .int .i64 left] w fun e w' => e = .returned (.int .i64 (if left < n then -1 else left - n)) ∧ w' = w := by
 have a1 : (0 : Int) ≤ (n : Int) := by omega
 have a2 : (n : Int) ≤ 9223372036854775807 := by omega
 by_cases h : left < n
 · rw [if_pos h]
   have q : left - (n : Int) < 0 := by omega
   go_enter Try.func74, Try.ntmps74
   go_wp2
   go_ret
   exact ⟨rfl, rfl⟩
 · rw [if_neg h]
   have q : ¬ left - (n : Int) < 0 := by omega
   go_enter Try.func74, Try.ntmps74
   go_wp2
   go_ret
   exact ⟨rfl, rfl⟩
theorem szItem (K N : Int) (f : Nat) (ad : Option Addr) (n cap : Nat) (left : Int) (hn : n ≤ 9223372036854775807) (h0 : 0 ≤ left) (h1 : left ≤ 1048576) (w : World) :
 Calls Try.prog 38 #[.agg #[.int .i64 K, .int .i64 N, .float .f64 f, .slice ad n cap], .int .i64 left] w fun e w' => e = .returned (.int .i64 (if left < n then -1 else left - n)) ∧ Below w.heap.size w w' := by
 have HA := hid (show Below w.heap.size w (w.alloc (.cells #[.int .i64 K, .int .i64 N, .float .f64 f, .slice ad n cap] 58)) from (Below.refl _ _).alloc (Nat.le_refl _) _)
 by_cases h : left < n
 · rw [if_pos h]
   go_enter Try.func38, Try.ntmps38
   go_wp2_with fail
   refine (szByteS ad n cap left hn h0 h1 _).mono ?_
   rintro e w1 ⟨rfl, rfl⟩
   rw [if_pos h]
   go_wp2_with fail
   go_ret
   exact ⟨rfl, HA.out⟩
 · rw [if_neg h]
   have q : ¬ left - (n : Int) < 0 := by omega
   have hz := szByteS ad n cap left hn h0 h1
   rw [if_neg h] at hz
   have HZ := hid hz
   clear hz
   go_enter Try.func38, Try.ntmps38
   go_wp2_with fail
   refine (HZ.out _).mono ?_
   rintro e w1 ⟨rfl, rfl⟩
   go_wp2_with fail
   go_ret
   exact ⟨rfl, HA.out⟩
set_option maxRecDepth 100000 in
set_option maxHeartbeats 1600000 in
theorem spec_KeyOk (K N : Int) (f : Nat) (ad : Option Addr) (n cap : Nat) (hf : f < 18446744073709551616) (hn : n ≤ 2097152) (w : World) :
 Calls Try.prog 62 #[.agg #[.int .i64 K, .int .i64 N, .float .f64 f, .slice ad n cap]] w fun e w' => e = .returned (.bool (okK K N f n)) ∧ Below w.heap.size w w' := by
 have hI := spec_ItemOk K N f ad n cap hf hn
 by_cases hok : okI K N f n = true
 · rw [hok] at hI
   by_cases hK : K = 0
   · rw [show okK K N f n = false by rw [okK, decide_eq_false (by omega), Bool.and_false]]
     have q : (K != 0) = false := by simp [hK]
     clear hK hok
     have hA : Below w.heap.size w (w.alloc (.cells #[.int .i64 K, .int .i64 N, .float .f64 f, .slice ad n cap] 32)) := (Below.refl _ _).alloc (Nat.le_refl _) _
     have hB := Box.new w K N f ad n cap 32
     go_enter Try.func62, Try.ntmps62
     go_wp2_with fail
     refine (hI _).mono ?_
     rintro e w1 ⟨rfl, b1⟩
     obtain ⟨c0, c1, c2, c3⟩ := hB.below b1 (by simp)
     have HA := hid (hA.trans (b1.mono hA.size))
     clear hA hB b1
     go_wp2_with fail
     go_ret
     exact ⟨rfl, HA.out⟩
   have q : (K != 0) = true := by simp [hK]
   by_cases h0 : f = 0
   · subst h0
     rw [show okK K N 0 n = true by rw [okK, hok, decide_eq_true (by omega)]; rfl]
     have o : FloatKind.f64.format.order 0 0 = some .eq := by decide
     have hz : fbits 0 = 0 := by decide
     clear hK hok
     have hA : Below w.heap.size w (w.alloc (.cells #[.int .i64 K, .int .i64 N, .float .f64 0, .slice ad n cap] 32)) := (Below.refl _ _).alloc (Nat.le_refl _) _
     have hB := Box.new w K N 0 ad n cap 32
     go_enter Try.func62, Try.ntmps62
     go_wp2_with fail
     refine (hI _).mono ?_
     rintro e w1 ⟨rfl, b1⟩
     obtain ⟨c0, c1, c2, c3⟩ := hB.below b1 (by simp)
     have HA := hid (hA.trans (b1.mono hA.size))
     clear hA hB b1
     go_wp2_with fail
     refine (spec_FloatBits 0 hf _).mono ?_
     rintro e w2 ⟨rfl, rfl⟩
     rw [hz]
     go_wp2_with fail
     go_ret
     exact ⟨rfl, HA.out⟩
   by_cases h1 : f = 9223372036854775808
   · subst h1
     rw [show okK K N 9223372036854775808 n = false by rw [okK, decide_eq_false (by omega), Bool.and_false]]
     have o : FloatKind.f64.format.order 9223372036854775808 0 = some .eq := by decide
     have hz : fbits 9223372036854775808 = 9223372036854775808 := by decide
     clear hK hok
     have hA : Below w.heap.size w (w.alloc (.cells #[.int .i64 K, .int .i64 N, .float .f64 9223372036854775808, .slice ad n cap] 32)) := (Below.refl _ _).alloc (Nat.le_refl _) _
     have hB := Box.new w K N 9223372036854775808 ad n cap 32
     go_enter Try.func62, Try.ntmps62
     go_wp2_with fail
     refine (hI _).mono ?_
     rintro e w1 ⟨rfl, b1⟩
     obtain ⟨c0, c1, c2, c3⟩ := hB.below b1 (by simp)
     have HA := hid (hA.trans (b1.mono hA.size))
     clear hA hB b1
     go_wp2_with fail
     refine (spec_FloatBits 9223372036854775808 hf _).mono ?_
     rintro e w2 ⟨rfl, rfl⟩
     rw [hz]
     go_wp2_with fail
     go_ret
     exact ⟨rfl, HA.out⟩
   rw [show okK K N f n = true by rw [okK, hok, decide_eq_true (by omega)]; rfl]
   have o : FloatKind.f64.format.order f 0 = some .lt ∨ FloatKind.f64.format.order f 0 = some .gt ∨ FloatKind.f64.format.order f 0 = none := by
    by_cases hN : isN f = true
    · exact .inr (.inr (order_l f 0 hf hN))
    · have hN' : isN f = false := by simpa using hN
      have hm := (isN_not f).1 hN'
      by_cases hp : f < 9223372036854775808
      · exact .inr (.inl (order_gt f 0 hf (by omega) hN' isN_zero (by rw [kx_zero, kx, if_pos hp]; omega)))
      · exact .inl (order_lt f 0 hf (by omega) hN' isN_zero (by rw [kx_zero, kx, if_neg hp]; omega))
   clear hK hok h0 h1
   rcases o with o | o | o
   all_goals
    have hA : Below w.heap.size w (w.alloc (.cells #[.int .i64 K, .int .i64 N, .float .f64 f, .slice ad n cap] 32)) := (Below.refl _ _).alloc (Nat.le_refl _) _
    have hB := Box.new w K N f ad n cap 32
    go_enter Try.func62, Try.ntmps62
    go_wp2_with fail
    refine (hI _).mono ?_
    rintro e w1 ⟨rfl, b1⟩
    obtain ⟨c0, c1, c2, c3⟩ := hB.below b1 (by simp)
    have HA := hid (hA.trans (b1.mono hA.size))
    clear hA hB b1
    go_wp2_with fail
    go_ret
    exact ⟨rfl, HA.out⟩
 · have hok' : okI K N f n = false := by simpa using hok
   rw [hok'] at hI
   rw [show okK K N f n = false by rw [okK, hok']; rfl]
   clear hok hok'
   have hA : Below w.heap.size w (w.alloc (.cells #[.int .i64 K, .int .i64 N, .float .f64 f, .slice ad n cap] 32)) := (Below.refl _ _).alloc (Nat.le_refl _) _
   have hB := Box.new w K N f ad n cap 32
   go_enter Try.func62, Try.ntmps62
   go_wp2_with fail
   refine (hI _).mono ?_
   rintro e w1 ⟨rfl, b1⟩
   obtain ⟨c0, c1, c2, c3⟩ := hB.below b1 (by simp)
   have HA := hid (hA.trans (b1.mono hA.size))
   clear hA hB b1
   go_wp2_with fail
   go_ret
   exact ⟨rfl, HA.out⟩
end Go.Proofs.Ytphmlndkjgldkaa
/- Blocks that are laid one behind the other. No statement of its own; no conditions. -/


namespace Go.Proofs.Ytphmlndkjgldkaa
open Go.RowKit
theorem alloc_size (w : World) (o : Obj) : (w.alloc o).heap.size = w.heap.size + 1 := by simp
theorem alloc_old (w : World) (o : Obj) (k : Nat) (h : k < w.heap.size) : (w.alloc o).heap[k]? = w.heap[k]? := by
 show (w.heap.push o)[k]? = w.heap[k]?
 rw [Array.getElem?_push, if_neg (by omega)]
theorem three (w : World) (a b c : Obj) :
 (((w.alloc a).alloc b).alloc c).heap.size = w.heap.size + 3 ∧ (((w.alloc a).alloc b).alloc c).heap[w.heap.size + 1]? = some b ∧ (((w.alloc a).alloc b).alloc c).heap[w.heap.size + 1 + 1]? = some c ∧ Below w.heap.size w (((w.alloc a).alloc b).alloc c) := by
 have h1 := alloc_size w a
 have h2 := alloc_size (w.alloc a) b
 have h3 := alloc_size ((w.alloc a).alloc b) c
 refine ⟨by omega, ?_, ?_, (((Below.refl _ _).alloc (Nat.le_refl _) _).alloc (by omega) _).alloc (by omega) _⟩
 · rw [alloc_old _ _ _ (by omega)]
   have := heap_alloc_new (w.alloc a) b
   rwa [h1] at this
 · have := heap_alloc_new ((w.alloc a).alloc b) c
   rwa [h2, h1] at this
theorem two (w : World) (a b : Obj) : Below w.heap.size w ((w.alloc a).alloc b) := ((Below.refl _ _).alloc (Nat.le_refl _) _).alloc (by simp) _
theorem owns_at {w w' : World} {base : Nat} {e : TypeId} {s : Nat} {v : Value} {n : Nat} {xs : List Value} (ho : w.ownsRow base e s v n xs) (h : ∀ k, base ≤ k → w'.heap[k]? = w.heap[k]?) : w'.ownsRow base e s v n xs := by
 refine ⟨ho.1, ?_⟩
 rcases ho.2 with hn | ⟨g, cap, cur, rfl, hbg, hg, rest⟩
 · exact .inl hn
 · exact .inr ⟨g, cap, cur, rfl, hbg, by rw [h g hbg]; exact hg, rest⟩
theorem owns_base {w : World} {base base' : Nat} {e : TypeId} {s : Nat} {v : Value} {n : Nat} {xs : List Value} (h : w.ownsRow base e s v n xs) (hb : base' ≤ base) : w.ownsRow base' e s v n xs := by
 refine ⟨h.1, ?_⟩
 rcases h.2 with hn | ⟨g, cap, cur, rfl, hbg, hg, rest⟩
 · exact .inl hn
 · exact .inr ⟨g, cap, cur, rfl, Nat.le_trans hb hbg, hg, rest⟩
theorem Below.alloc1 (w : World) (o : Obj) : Below w.heap.size w (w.alloc o) := (Below.refl w.heap.size w).alloc (Nat.le_refl _) o
end Go.Proofs.Ytphmlndkjgldkaa
/- The contract of the laws' toItem: the same item with a text of its own. Conditions: texts of at most 2^21 bytes. -/



namespace Go.Proofs.Ytphmlndkjgldkaa
open Go.RowKit
theorem size32 : (Try.prog.info? 32).map (·.size) = some 4 := by kernel_rfl
set_option maxRecDepth 100000 in
set_option maxHeartbeats 1600000 in
theorem toItem (K N : Int) (f : Nat) {ad : Option Addr} {n : Nat} (cap : Nat) {zs : List Int} {w : World} (h : Reads w ad n zs) (hn : n ≤ 2097152) :
 Calls Try.prog 40 #[.agg #[.int .i64 K, .int .i64 N, .float .f64 f, .slice ad n cap]] w fun e w' => ∃ g, e = .returned (.agg #[.int .i64 K, .int .i64 N, .float .f64 f, .slice (some ⟨g, 0, none⟩) n n]) ∧ w'.ownsRow w.heap.size 5 1 (.slice (some ⟨g, 0, none⟩) n n) n (bys zs) ∧ Below w.heap.size w w' := by
 have hst := fun w a m => run_store Try.prog w a (.float .f64 f) m rfl
 go_enter Try.func40, Try.ntmps40
 go_wp2_with fail
 obtain ⟨z, R1, R2, bW⟩ := three w (.cells #[.int .i64 K, .int .i64 N, .float .f64 f, .slice ad n cap] 58) (.cells #[.int .i64 0, .int .i64 0, .float .f64 0, .slice none 0 0] 32) (.cells #[.int .i64 K, .int .i64 N, .float .f64 f, .slice none 0 0] 32)
 have zW := hid z
 clear z
 generalize ((w.alloc (.cells #[.int .i64 K, .int .i64 N, .float .f64 f, .slice ad n cap] 58)).alloc (.cells #[.int .i64 0, .int .i64 0, .float .f64 0, .slice none 0 0] 32)).alloc (.cells #[.int .i64 K, .int .i64 N, .float .f64 f, .slice none 0 0] 32) = W at *
 refine (toByteS_any cap (h.below bW (Nat.le_refl _)) hn).mono ?_
 rintro e W1 ⟨rfl, o1, b1⟩
 have hW := zW.out
 have S1 : W1.heap[w.heap.size + 1]? = _ := (b1.block _ (by omega)).trans R1
 have S2 : W1.heap[w.heap.size + 1 + 1]? = _ := (b1.block _ (by omega)).trans R2
 have B1 := bW.trans (b1.mono bW.size)
 have O1 := hid o1
 have HW := hid hW
 clear o1 hW zW R1 R2 bW b1
 have c3 : W1.cell? ⟨w.heap.size + 1 + 1, 3, none⟩ = some (.slice none 0 0) := by rw [cell_of_row _ _ _ _ _ _ S2]; rfl
 have fz : W1.frozen? ⟨w.heap.size + 1 + 1, 3, none⟩ = false := frozen_of_row _ _ _ _ _ S2
 have T2 := hid (heap_setCell_same W1 (w.heap.size + 1 + 1) 3 _ 32 (.slice (some ⟨W.heap.size, 0, none⟩) n n) S2)
 have T1 := hid ((heap_setCell_other W1 ⟨w.heap.size + 1 + 1, 3, none⟩ (w.heap.size + 1) (.slice (some ⟨W.heap.size, 0, none⟩) n n) (by simp)).trans S1)
 have BC := hid (B1.setCell (p := ⟨w.heap.size + 1 + 1, 3, none⟩) (by simp; omega) (.slice (some ⟨W.heap.size, 0, none⟩) n n))
 clear S1 S2
 go_wp2_with (first
  | (refine wpList_load_row rfl 32 (.tmp 3) rfl (w.heap.size + 1 + 1) rfl 32 _ (0, 0) _ T2.out Try.underlying32 rfl size32 ?_)
  | (refine wpList_store_row rfl 32 (.tmp 2) (.tmp 17) rfl (w.heap.size + 1) #[.int .i64 K, .int .i64 N, .float .f64 f, .slice (some ⟨W.heap.size, 0, none⟩) n n] rfl rfl 32 _ T1.out ?s1 ?s2 ?s3 ?_))
 case s1 => exact size32
 case s2 => rfl
 case s3 => simp [Value.oneCell']
 have hW := HW.out
 refine bodyPost_ret (results_cell_row Try.results40 _ _ (w.heap.size + 1) 32 #[.int .i64 K, .int .i64 N, .float .f64 f, .slice (some ⟨W.heap.size, 0, none⟩) n n] (0, 0) _ rfl (setRow_heap _ _ _ _ _ _ T1.out) Try.underlying32 rfl size32) rfl ⟨W.heap.size, rfl, owns_base (owns_at O1.out fun k hk => ?_) (by omega), below_setRow BC.out (by omega) _⟩
 rw [setRow_other _ _ _ _ (by omega), heap_setCell_other _ _ _ _ (by simp; omega)]
end Go.Proofs.Ytphmlndkjgldkaa
/- The contracts of the laws' eqItem, markItem and heldItem. Conditions: texts of at most 2^21 bytes. -/

namespace Go.Proofs.Ytphmlndkjgldkaa
open Go.RowKit
set_option maxRecDepth 100000 in
set_option maxHeartbeats 1600000 in
theorem eqItem (K N : Int) (f f' : Nat) {ad ad' : Option Addr} {n : Nat} (cap cap' : Nat) {zs : List Int} {w : World} (hf : f < 18446744073709551616) (hf' : f' < 18446744073709551616) (hs : Same f f') (h : Reads w ad n zs) (h' : Reads w ad' n zs) (hn : n ≤ 2097152) :
 Calls Try.prog 42 #[.agg #[.int .i64 K, .int .i64 N, .float .f64 f, .slice ad n cap], .agg #[.int .i64 K, .int .i64 N, .float .f64 f', .slice ad' n cap']] w fun e w' => e = .returned (.bool true) ∧ Below w.heap.size w w' := by
 have hB := two w (.cells #[.int .i64 K, .int .i64 N, .float .f64 f, .slice ad n cap] 32) (.cells #[.int .i64 K, .int .i64 N, .float .f64 f', .slice ad' n cap'] 32)
 have H1 := hid (h.below hB (Nat.le_refl _))
 have H2 := hid (h'.below hB (Nat.le_refl _))
 have HB := hid hB
 clear hB h h'
 go_enter Try.func42, Try.ntmps42
 go_wp2_with fail
 refine (sameFloat_walk f f' hf hf' hs _).mono ?_
 rintro e w1 ⟨rfl, hw⟩
 rw [hw]
 clear hw
 go_wp2_with fail
 refine (eqByteS_any cap cap' H1.out H2.out hn).mono ?_
 rintro e w2 ⟨rfl, st⟩
 go_wp2_with fail
 go_ret
 exact ⟨rfl, HB.out.trans (st.below _)⟩
end Go.Proofs.Ytphmlndkjgldkaa
/- Texts compared: the contract of the specification's l3texts. Conditions: texts of at most 2^21 bytes. -/

namespace Go.Proofs.Ytphmlndkjgldkaa
open Go.RowKit
def txt : List Int → List Int → Int
 | [], [] => 0
 | [], _ :: _ => -1
 | _ :: _, [] => 1
 | x :: xs, y :: ys => if x < y then -1 else if y < x then 1 else txt xs ys
theorem drop_cons (zs : List Int) (k : Nat) (h : k < zs.length) : zs.drop k = zs.getD k 0 :: zs.drop (k + 1) := by
 rw [List.drop_eq_getElem_cons h]
 simp [List.getD, h]
theorem txt_step (zs ys : List Int) (k : Nat) (h : k < zs.length) (h' : k < ys.length) :
 txt (zs.drop k) (ys.drop k) = if zs.getD k 0 < ys.getD k 0 then -1 else if ys.getD k 0 < zs.getD k 0 then 1 else txt (zs.drop (k + 1)) (ys.drop (k + 1)) := by
 rw [drop_cons zs k h, drop_cons ys k h']
 rfl
theorem txt_end (zs ys : List Int) (k : Nat) (hk : k ≤ zs.length) (hk' : k ≤ ys.length) (h : k = zs.length ∨ k = ys.length) :
 txt (zs.drop k) (ys.drop k) = if zs.length < ys.length then -1 else if ys.length < zs.length then 1 else 0 := by
 by_cases h1 : k = zs.length
 · subst h1
   rw [List.drop_length]
   by_cases h2 : zs.length < ys.length
   · rw [if_pos h2, drop_cons ys _ h2]; rfl
   · rw [if_neg h2, if_neg (by omega), List.drop_eq_nil_of_le (by omega)]; rfl
 · have h2 : k = ys.length := by omega
   subst h2
   rw [List.drop_length, if_neg (by omega), if_pos (by omega), drop_cons zs _ (by omega)]; rfl
set_option maxRecDepth 100000 in
set_option maxHeartbeats 1600000 in
theorem spec_l3texts {ad ad' : Option Addr} {n m : Nat} (cap cap' : Nat) {zs ys : List Int} {w : World} (h : Reads w ad n zs) (h' : Reads w ad' m ys) (hn : n ≤ 2097152) :
 Calls Try.prog 50 #[.slice ad n cap, .slice ad' m cap'] w fun e w' => e = .returned (.int .i64 (txt zs ys)) ∧ Still w w' := by
 have hl := h.len
 have hl' := h'.len
 go_enter Try.func50, Try.ntmps50
 go_wp2
 go_loopw [5] (fun i wr => ∃ k d : Nat, k ≤ n ∧ k ≤ m ∧ i = .int .i64 k ∧ Hid (txt zs ys = txt (zs.drop k) (ys.drop k)) ∧ wr = w.drewN d) (fun i _ => n - (intOf i).toNat)
 case atStart => exact ⟨0, 0, Nat.zero_le _, Nat.zero_le _, rfl, hid rfl, rfl⟩
 case round =>
  obtain ⟨k, d, hk, hk', rfl, HT, rfl⟩ := hrel
  have hk0 : (0 : Int) ≤ (k : Int) := by omega
  by_cases hlt : k < n ∧ k < m
  · obtain ⟨g1, g2⟩ := hlt
    have g1' : (k : Int) < (n : Int) := by omega
    have g2' : (k : Int) < (m : Int) := by omega
    rcases h.cells with h0 | ⟨b, off, rfl, hc⟩
    · omega
    rcases h'.cells with h0 | ⟨b', off', rfl, hc'⟩
    · omega
    have c1 := hc k g1
    have c2 := hc' k g2
    have hb := h.bd k
    have hb' := h'.bd k
    have HS := HT.out
    rw [txt_step zs ys k (by omega) (by omega)] at HS
    generalize zs.getD k 0 = x at *
    generalize ys.getD k 0 = y at *
    have HS' := hid HS
    have G := hid (show k < n ∧ k < m from ⟨g1, g2⟩)
    clear hc hc' HS HT g1 g2
    by_cases e1 : x < y
    · go_wp2
      go_quiet (fail)
      go_wp2
      go_ret
      refine ⟨?_, (Still.drewN _ _).trans (Still.drewN _ _)⟩
      rw [HS'.out, if_pos e1]; rfl
    · by_cases e2 : y < x
      · go_wp2
        go_quiet (fail)
        go_wp2
        go_quiet (fail)
        go_wp2
        go_ret
        refine ⟨?_, ((Still.drewN _ _).trans (Still.drewN _ _)).trans (Still.drewN _ _)⟩
        rw [HS'.out, if_neg (by omega), if_pos e2]; rfl
      · go_wp2
        go_quiet (fail)
        go_wp2
        go_quiet (fail)
        go_wp2
        go_roundw
        case rel => exact ⟨k + 1, _, by have := G.out; omega, by have := G.out; omega, by go_num, hid (by rw [HS'.out, if_neg (by omega), if_neg (by omega)]), rfl⟩
        case measure => have := G.out; simp [intOf]; omega
  · have he := txt_end zs ys k (by omega) (by omega) (by omega)
    rw [hl, hl'] at he
    have HE := hid (HT.out.trans he)
    clear HT he h h' hl hl'
    by_cases g1 : k < n
    · have g2 : ¬ k < m := by omega
      have g1' : (k : Int) < (n : Int) := by omega
      have g2' : ¬ (k : Int) < (m : Int) := by omega
      have q1 : ¬ (n : Int) < (m : Int) := by omega
      have q2 : (m : Int) < (n : Int) := by omega
      rw [if_neg (by omega), if_pos (by omega)] at HE
      go_wp2
      go_ret
      exact ⟨by rw [HE.out]; rfl, Still.drewN _ _⟩
    · have g1' : ¬ (k : Int) < (n : Int) := by omega
      by_cases q : n < m
      · have q1 : (n : Int) < (m : Int) := by omega
        rw [if_pos q] at HE
        go_wp2
        go_ret
        exact ⟨by rw [HE.out]; rfl, Still.drewN _ _⟩
      · have q1 : ¬ (n : Int) < (m : Int) := by omega
        have q2 : ¬ (m : Int) < (n : Int) := by omega
        rw [if_neg q, if_neg (by omega)] at HE
        go_wp2
        go_ret
        exact ⟨by rw [HE.out]; rfl, Still.drewN _ _⟩
def cmpI (K N : Int) (f n : Nat) (zs : List Int) (K' N' : Int) (f' n' : Nat) (zs' : List Int) : Int :=
 if okI K N f n = false ∨ okI K' N' f' n' = false then -2
 else if K ≠ K' then (if K < K' then -1 else 1)
 else if N ≠ N' then (if N < N' then -1 else 1)
 else if cmp3 (frank f) (frank f') ≠ 0 then cmp3 (frank f) (frank f')
 else txt zs zs'
set_option maxRecDepth 100000 in
set_option maxHeartbeats 3200000 in
theorem spec_ItemCompare (K N K' N' : Int) (f f' : Nat) {ad ad' : Option Addr} {n n' : Nat} (cap cap' : Nat) {zs zs' : List Int} {w : World} (hf : f < 18446744073709551616) (hf' : f' < 18446744073709551616)
 (h : Reads w ad n zs) (h' : Reads w ad' n' zs') (hn : n ≤ 2097152) (hn' : n' ≤ 2097152) :
 Calls Try.prog 14 #[.agg #[.int .i64 K, .int .i64 N, .float .f64 f, .slice ad n cap], .agg #[.int .i64 K', .int .i64 N', .float .f64 f', .slice ad' n' cap']] w fun e w' => e = .returned (.int .i64 (cmpI K N f n zs K' N' f' n' zs')) ∧ Below w.heap.size w w' := by
 have hB := two w (.cells #[.int .i64 K, .int .i64 N, .float .f64 f, .slice ad n cap] 32) (.cells #[.int .i64 K', .int .i64 N', .float .f64 f', .slice ad' n' cap'] 32)
 have z1 := alloc_size w (.cells #[.int .i64 K, .int .i64 N, .float .f64 f, .slice ad n cap] 32)
 have z2 := alloc_size (w.alloc (.cells #[.int .i64 K, .int .i64 N, .float .f64 f, .slice ad n cap] 32)) (.cells #[.int .i64 K', .int .i64 N', .float .f64 f', .slice ad' n' cap'] 32)
 have x1 := (Box.new w K N f ad n cap 32).below ((Below.refl (w.heap.size + 1) _).alloc (by omega) (.cells #[.int .i64 K', .int .i64 N', .float .f64 f', .slice ad' n' cap'] 32)) (by omega)
 have x2 := Box.new (w.alloc (.cells #[.int .i64 K, .int .i64 N, .float .f64 f, .slice ad n cap] 32)) K' N' f' ad' n' cap' 32
 rw [z1] at x2 z2
 have H1 := h.below hB (Nat.le_refl _)
 have H2 := h'.below hB (Nat.le_refl _)
 have e1 := spec_ItemOk K N f ad n cap hf hn
 have e2 := spec_ItemOk K' N' f' ad' n' cap' hf' hn'
 by_cases o1 : okI K N f n = false
 · rw [show cmpI K N f n zs K' N' f' n' zs' = -2 by rw [cmpI, if_pos (.inl o1)]]
   rw [o1] at e1
   go_enter Try.func14, Try.ntmps14
   go_wp2_with fail
   refine (e1 _).mono ?_
   rintro e w1 ⟨rfl, b1⟩
   have BB := hid (hB.trans (b1.mono hB.size))
   clear hB b1 H1 H2 x1 x2 z1 z2
   go_wp2_with fail
   go_ret
   exact ⟨rfl, BB.out⟩
 have o1' : okI K N f n = true := by simpa using o1
 rw [o1'] at e1
 by_cases o2 : okI K' N' f' n' = false
 · rw [show cmpI K N f n zs K' N' f' n' zs' = -2 by rw [cmpI, if_pos (.inr o2)]]
   rw [o2] at e2
   go_enter Try.func14, Try.ntmps14
   go_wp2_with fail
   refine (e1 _).mono ?_
   rintro e w1 ⟨rfl, b1⟩
   have B1 := hB.trans (b1.mono hB.size)
   have y1 := x1.below b1 (by omega)
   have y2 := x2.below b1 (by omega)
   have zz := b1.size
   have h1 := H1.below b1 (Nat.le_refl _)
   have h2 := H2.below b1 (Nat.le_refl _)
   obtain ⟨d0, d1, d2, d3⟩ := y2
   have Y1 := hid y1
   have Y2 := hid (x2.below b1 (by omega))
   have ZZ := hid (show w.heap.size + 1 < w1.heap.size by omega)
   clear hB b1 H1 H2 x1 x2 z1 z2 y1 zz
   go_wp2_with fail
   clear d0 d1 d2 d3
   refine (e2 _).mono ?_
   rintro e w2 ⟨rfl, b2⟩
   have BB := B1.trans (b2.mono B1.size)
   have zz := ZZ.out
   obtain ⟨c0, c1, c2, c3⟩ := Y1.out.below b2 (by omega)
   obtain ⟨d0, d1, d2, d3⟩ := Y2.out.below b2 (by omega)
   have h3 := h1.below b2 (Nat.le_refl _)
   have h4 := h2.below b2 (Nat.le_refl _)
   clear B1 b2 Y1 Y2 ZZ zz h1 h2
   go_wp2_with fail
   go_ret
   exact ⟨rfl, BB⟩
 have o2' : okI K' N' f' n' = true := by simpa using o2
 rw [o2'] at e2
 have ho : ¬ (okI K N f n = false ∨ okI K' N' f' n' = false) := fun h => h.elim o1 o2
 clear o1 o2 o1' o2'
 by_cases k1 : K ≠ K'
 · have q : (K != K') = true := by simp [k1]
   by_cases k2 : K < K'
   · rw [show cmpI K N f n zs K' N' f' n' zs' = -1 by rw [cmpI, if_neg ho, if_pos k1, if_pos k2]]
     clear ho k1
     go_enter Try.func14, Try.ntmps14
     go_wp2_with fail
     refine (e1 _).mono ?_
     rintro e w1 ⟨rfl, b1⟩
     have B1 := hB.trans (b1.mono hB.size)
     have y1 := x1.below b1 (by omega)
     have y2 := x2.below b1 (by omega)
     have zz := b1.size
     have h1 := H1.below b1 (Nat.le_refl _)
     have h2 := H2.below b1 (Nat.le_refl _)
     obtain ⟨d0, d1, d2, d3⟩ := y2
     have Y1 := hid y1
     have Y2 := hid (x2.below b1 (by omega))
     have ZZ := hid (show w.heap.size + 1 < w1.heap.size by omega)
     clear hB b1 H1 H2 x1 x2 z1 z2 y1 zz
     go_wp2_with fail
     clear d0 d1 d2 d3
     refine (e2 _).mono ?_
     rintro e w2 ⟨rfl, b2⟩
     have BB := B1.trans (b2.mono B1.size)
     have zz := ZZ.out
     obtain ⟨c0, c1, c2, c3⟩ := Y1.out.below b2 (by omega)
     obtain ⟨d0, d1, d2, d3⟩ := Y2.out.below b2 (by omega)
     have h3 := h1.below b2 (Nat.le_refl _)
     have h4 := h2.below b2 (Nat.le_refl _)
     clear B1 b2 Y1 Y2 ZZ zz h1 h2
     go_wp2_with fail
     go_ret
     exact ⟨rfl, BB⟩
   · rw [show cmpI K N f n zs K' N' f' n' zs' = 1 by rw [cmpI, if_neg ho, if_pos k1, if_neg k2]]
     clear ho k1
     go_enter Try.func14, Try.ntmps14
     go_wp2_with fail
     refine (e1 _).mono ?_
     rintro e w1 ⟨rfl, b1⟩
     have B1 := hB.trans (b1.mono hB.size)
     have y1 := x1.below b1 (by omega)
     have y2 := x2.below b1 (by omega)
     have zz := b1.size
     have h1 := H1.below b1 (Nat.le_refl _)
     have h2 := H2.below b1 (Nat.le_refl _)
     obtain ⟨d0, d1, d2, d3⟩ := y2
     have Y1 := hid y1
     have Y2 := hid (x2.below b1 (by omega))
     have ZZ := hid (show w.heap.size + 1 < w1.heap.size by omega)
     clear hB b1 H1 H2 x1 x2 z1 z2 y1 zz
     go_wp2_with fail
     clear d0 d1 d2 d3
     refine (e2 _).mono ?_
     rintro e w2 ⟨rfl, b2⟩
     have BB := B1.trans (b2.mono B1.size)
     have zz := ZZ.out
     obtain ⟨c0, c1, c2, c3⟩ := Y1.out.below b2 (by omega)
     obtain ⟨d0, d1, d2, d3⟩ := Y2.out.below b2 (by omega)
     have h3 := h1.below b2 (Nat.le_refl _)
     have h4 := h2.below b2 (Nat.le_refl _)
     clear B1 b2 Y1 Y2 ZZ zz h1 h2
     go_wp2_with fail
     go_ret
     exact ⟨rfl, BB⟩
 obtain rfl : K = K' := by simpa using k1
 by_cases m1 : N ≠ N'
 · have q : (N != N') = true := by simp [m1]
   by_cases m2 : N < N'
   · rw [show cmpI K N f n zs K N' f' n' zs' = -1 by rw [cmpI, if_neg ho, if_neg k1, if_pos m1, if_pos m2]]
     clear ho k1 m1
     go_enter Try.func14, Try.ntmps14
     go_wp2_with fail
     refine (e1 _).mono ?_
     rintro e w1 ⟨rfl, b1⟩
     have B1 := hB.trans (b1.mono hB.size)
     have y1 := x1.below b1 (by omega)
     have y2 := x2.below b1 (by omega)
     have zz := b1.size
     have h1 := H1.below b1 (Nat.le_refl _)
     have h2 := H2.below b1 (Nat.le_refl _)
     obtain ⟨d0, d1, d2, d3⟩ := y2
     have Y1 := hid y1
     have Y2 := hid (x2.below b1 (by omega))
     have ZZ := hid (show w.heap.size + 1 < w1.heap.size by omega)
     clear hB b1 H1 H2 x1 x2 z1 z2 y1 zz
     go_wp2_with fail
     clear d0 d1 d2 d3
     refine (e2 _).mono ?_
     rintro e w2 ⟨rfl, b2⟩
     have BB := B1.trans (b2.mono B1.size)
     have zz := ZZ.out
     obtain ⟨c0, c1, c2, c3⟩ := Y1.out.below b2 (by omega)
     obtain ⟨d0, d1, d2, d3⟩ := Y2.out.below b2 (by omega)
     have h3 := h1.below b2 (Nat.le_refl _)
     have h4 := h2.below b2 (Nat.le_refl _)
     clear B1 b2 Y1 Y2 ZZ zz h1 h2
     go_wp2_with fail
     go_ret
     exact ⟨rfl, BB⟩
   · rw [show cmpI K N f n zs K N' f' n' zs' = 1 by rw [cmpI, if_neg ho, if_neg k1, if_pos m1, if_neg m2]]
     clear ho k1 m1
     go_enter Try.func14, Try.ntmps14
     go_wp2_with fail
     refine (e1 _).mono ?_
     rintro e w1 ⟨rfl, b1⟩
     have B1 := hB.trans (b1.mono hB.size)
     have y1 := x1.below b1 (by omega)
     have y2 := x2.below b1 (by omega)
     have zz := b1.size
     have h1 := H1.below b1 (Nat.le_refl _)
     have h2 := H2.below b1 (Nat.le_refl _)
     obtain ⟨d0, d1, d2, d3⟩ := y2
     have Y1 := hid y1
     have Y2 := hid (x2.below b1 (by omega))
     have ZZ := hid (show w.heap.size + 1 < w1.heap.size by omega)
     clear hB b1 H1 H2 x1 x2 z1 z2 y1 zz
     go_wp2_with fail
     clear d0 d1 d2 d3
     refine (e2 _).mono ?_
     rintro e w2 ⟨rfl, b2⟩
     have BB := B1.trans (b2.mono B1.size)
     have zz := ZZ.out
     obtain ⟨c0, c1, c2, c3⟩ := Y1.out.below b2 (by omega)
     obtain ⟨d0, d1, d2, d3⟩ := Y2.out.below b2 (by omega)
     have h3 := h1.below b2 (Nat.le_refl _)
     have h4 := h2.below b2 (Nat.le_refl _)
     clear B1 b2 Y1 Y2 ZZ zz h1 h2
     go_wp2_with fail
     go_ret
     exact ⟨rfl, BB⟩
 obtain rfl : N = N' := by simpa using m1
 have ef := spec_FloatCompare f f' hf hf'
 by_cases c1 : cmp3 (frank f) (frank f') ≠ 0
 · rw [show cmpI K N f n zs K N f' n' zs' = cmp3 (frank f) (frank f') by rw [cmpI, if_neg ho, if_neg k1, if_neg m1, if_pos c1]]
   have q : (cmp3 (frank f) (frank f') != 0) = true := by simp [c1]
   generalize cmp3 (frank f) (frank f') = C at *
   clear ho k1 m1 c1
   go_enter Try.func14, Try.ntmps14
   go_wp2_with fail
   refine (e1 _).mono ?_
   rintro e w1 ⟨rfl, b1⟩
   have B1 := hB.trans (b1.mono hB.size)
   have y1 := x1.below b1 (by omega)
   have y2 := x2.below b1 (by omega)
   have zz := b1.size
   have h1 := H1.below b1 (Nat.le_refl _)
   have h2 := H2.below b1 (Nat.le_refl _)
   obtain ⟨d0, d1, d2, d3⟩ := y2
   have Y1 := hid y1
   have Y2 := hid (x2.below b1 (by omega))
   have ZZ := hid (show w.heap.size + 1 < w1.heap.size by omega)
   clear hB b1 H1 H2 x1 x2 z1 z2 y1 zz
   go_wp2_with fail
   clear d0 d1 d2 d3
   refine (e2 _).mono ?_
   rintro e w2 ⟨rfl, b2⟩
   have BB := B1.trans (b2.mono B1.size)
   have zz := ZZ.out
   obtain ⟨c0, c1, c2, c3⟩ := Y1.out.below b2 (by omega)
   obtain ⟨d0, d1, d2, d3⟩ := Y2.out.below b2 (by omega)
   have h3 := h1.below b2 (Nat.le_refl _)
   have h4 := h2.below b2 (Nat.le_refl _)
   clear B1 b2 Y1 Y2 ZZ zz h1 h2
   go_wp2_with fail
   refine (ef _).mono ?_
   rintro e w3 ⟨rfl, rfl⟩
   go_wp2_with fail
   go_ret
   exact ⟨rfl, BB⟩
 · rw [show cmpI K N f n zs K N f' n' zs' = txt zs zs' by rw [cmpI, if_neg ho, if_neg k1, if_neg m1, if_neg c1]]
   have c1' : cmp3 (frank f) (frank f') = 0 := by simpa using c1
   rw [c1'] at ef
   clear ho k1 m1 c1 c1'
   go_enter Try.func14, Try.ntmps14
   go_wp2_with fail
   refine (e1 _).mono ?_
   rintro e w1 ⟨rfl, b1⟩
   have B1 := hB.trans (b1.mono hB.size)
   have y1 := x1.below b1 (by omega)
   have y2 := x2.below b1 (by omega)
   have zz := b1.size
   have h1 := H1.below b1 (Nat.le_refl _)
   have h2 := H2.below b1 (Nat.le_refl _)
   obtain ⟨d0, d1, d2, d3⟩ := y2
   have Y1 := hid y1
   have Y2 := hid (x2.below b1 (by omega))
   have ZZ := hid (show w.heap.size + 1 < w1.heap.size by omega)
   clear hB b1 H1 H2 x1 x2 z1 z2 y1 zz
   go_wp2_with fail
   clear d0 d1 d2 d3
   refine (e2 _).mono ?_
   rintro e w2 ⟨rfl, b2⟩
   have BB := B1.trans (b2.mono B1.size)
   have zz := ZZ.out
   obtain ⟨c0, c1, c2, c3⟩ := Y1.out.below b2 (by omega)
   obtain ⟨d0, d1, d2, d3⟩ := Y2.out.below b2 (by omega)
   have h3 := h1.below b2 (Nat.le_refl _)
   have h4 := h2.below b2 (Nat.le_refl _)
   clear B1 b2 Y1 Y2 ZZ zz h1 h2
   go_wp2_with fail
   refine (ef _).mono ?_
   rintro e w3 ⟨rfl, rfl⟩
   go_wp2_with fail
   refine (spec_l3texts cap cap' h3 h4 hn).mono ?_
   rintro e w4 ⟨rfl, st⟩
   go_wp2_with fail
   go_ret
   exact ⟨rfl, BB.trans (st.below _)⟩
end Go.Proofs.Ytphmlndkjgldkaa
/- The contracts of the laws' markItem and heldItem. Conditions: texts of at most 2^21 bytes. -/

namespace Go.Proofs.Ytphmlndkjgldkaa
open Go.RowKit
theorem markItem (K N : Int) (f : Nat) {base n cap : Nat} {ad : Option Addr} (k : Int) {xs : List Value} {w : World} (hn : n ≤ 2097152) (hk0 : 0 ≤ k) (hk1 : k ≤ 1000000000) (hown : w.ownsRow base 5 1 (.slice ad n cap) n xs) :
 Calls Try.prog 43 #[.agg #[.int .i64 K, .int .i64 N, .float .f64 f, .slice ad n cap], .int .i64 k] w fun e w' =>
  e = .returned (.int .i64 (k + n)) ∧ w'.ownsRow base 5 1 (.slice ad n cap) n (bys (marks k n)) ∧ w.grownBy w' (Value.slice ad n cap).ownBlock := by
 have o1 := hown.alloc (.cells #[.int .i64 K, .int .i64 N, .float .f64 f, .slice ad n cap] 32)
 have g1 := World.grownBy_alloc w (.cells #[.int .i64 K, .int .i64 N, .float .f64 f, .slice ad n cap] 32) (Value.slice ad n cap).ownBlock
 have O1 := hid o1
 clear o1
 go_enter Try.func43, Try.ntmps43
 go_wp2_with fail
 refine (markByteS_any k hn hk0 hk1 O1.out).mono ?_
 rintro e w1 ⟨rfl, o2, g2⟩
 go_wp2_with fail
 go_ret
 exact ⟨rfl, o2, grown_trans g1 g2⟩
end Go.Proofs.Ytphmlndkjgldkaa
/- Plain notions for disks in memory: rows of byte rows, each in a block of its own; what they keep. No statement of its own; no conditions. -/

namespace Go.Proofs.Ytphmlndkjgldkaa
open Go.RowKit
def Agree (lo hi : Nat) (w w' : World) : Prop := ∀ k, lo ≤ k → k < hi → w'.heap[k]? = w.heap[k]?
theorem Agree.below {B lo hi : Nat} {w w' : World} (h : Below B w w') (hh : hi ≤ B) : Agree lo hi w w' := fun k _ h2 => h.block k (by omega)
structure Within (lo hi : Nat) (w w' : World) : Prop where
 os : w'.os = w.os
 tape : w'.tape = w.tape
 output : w'.output = w.output
 size : w.heap.size ≤ w'.heap.size
 block : ∀ k, k < w.heap.size → (k < lo ∨ hi ≤ k) → w'.heap[k]? = w.heap[k]?
theorem Within.refl (lo hi : Nat) (w : World) : Within lo hi w w := ⟨rfl, rfl, rfl, Nat.le_refl _, fun _ _ _ => rfl⟩
theorem Within.trans {lo hi : Nat} {a b c : World} (h : Within lo hi a b) (k : Within lo hi b c) : Within lo hi a c :=
 ⟨k.os.trans h.os, k.tape.trans h.tape, k.output.trans h.output, Nat.le_trans h.size k.size, fun i h1 h2 => (k.block i (Nat.lt_of_lt_of_le h1 h.size) h2).trans (h.block i h1 h2)⟩
theorem Within.below {lo hi : Nat} {w w' : World} (h : Within lo hi w w') (hl : lo ≤ w.heap.size) : Below lo w w' := ⟨h.os, h.tape, h.output, h.size, fun k hk => h.block k (by omega) (.inl hk)⟩
theorem Within.agree {lo hi a b : Nat} {w w' : World} (h : Within lo hi w w') (hb : b ≤ w.heap.size) (ho : b ≤ lo ∨ hi ≤ a) : Agree a b w w' := fun k h1 h2 => h.block k (by omega) (by omega)
theorem Within.of_below {B lo hi : Nat} {w w' : World} (h : Below B w w') (hB : w.heap.size ≤ B) : Within lo hi w w' := ⟨h.os, h.tape, h.output, h.size, fun k hk _ => h.block k (by omega)⟩
theorem Within.grown {lo hi : Nat} {w w' : World} {row : Option Nat} (h : w.grownBy w' row) (hr : ∀ k, row = some k → lo ≤ k ∧ k < hi) : Within lo hi w w' :=
 ⟨h.os, h.tape, h.output, h.size, fun k hk ho => h.block k hk (fun e => by have := hr k e.symm; omega)⟩
theorem Within.setCell {lo hi : Nat} (w : World) {p : Addr} (hp : lo ≤ p.block ∧ p.block < hi) (u : Value) : Within lo hi w (w.setCell p u) :=
 ⟨rfl, rfl, rfl, by simp [World.setCell], fun k _ ho => Below.heap_setCell _ _ _ _ (by omega)⟩
theorem owns_agree {w w' : World} {lo hi base : Nat} {e : TypeId} {s : Nat} {v : Value} {n : Nat} {xs : List Value} (ho : w.ownsRow base e s v n xs) (ha : Agree lo hi w w') (hb : ∀ g, v.ownBlock = some g → lo ≤ g ∧ g < hi) : w'.ownsRow base e s v n xs := by
 refine ⟨ho.1, ?_⟩
 rcases ho.2 with hn | ⟨g, cap, cur, rfl, hbg, hg, rest⟩
 · exact .inl hn
 · exact .inr ⟨g, cap, cur, rfl, hbg, by rw [ha g (hb g rfl).1 (hb g rfl).2]; exact hg, rest⟩
theorem owns_lower {w : World} {base base' : Nat} {e : TypeId} {s : Nat} {v : Value} {n : Nat} {xs : List Value} (h : w.ownsRow base e s v n xs) (hb : base' ≤ base) : w.ownsRow base' e s v n xs := by
 refine ⟨h.1, ?_⟩
 rcases h.2 with hn | ⟨g, cap, cur, rfl, hbg, hg, rest⟩
 · exact .inl hn
 · exact .inr ⟨g, cap, cur, rfl, Nat.le_trans hb hbg, hg, rest⟩
theorem owns_ne {w : World} {b b' : Nat} {e e' : TypeId} {s s' : Nat} {v v' : Value} {n n' : Nat} {xs xs' : List Value} (h : w.ownsRow b e s v n xs) (h' : w.ownsRow b' e' s' v' n' xs') (hne : e ≠ e') : v.ownBlock = none ∨ v.ownBlock ≠ v'.ownBlock := by
 rcases h.2 with ⟨rfl, _⟩ | ⟨g, cap, cur, rfl, _, hg, _⟩
 · exact .inl rfl
 · right
   rcases h'.2 with ⟨rfl, _⟩ | ⟨g', cap', cur', rfl, _, hg', _⟩
   · simp [Value.ownBlock]
   · intro he
     simp only [Value.ownBlock, Option.some.injEq] at he
     subst he
     rw [hg] at hg'
     simp only [Option.some.injEq, Obj.cells.injEq] at hg'
     exact hne hg'.2.1
def nilS : Value := .slice none 0 0
def Apart (a b : Value) : Prop := a.ownBlock = none ∨ a.ownBlock ≠ b.ownBlock
theorem Apart.symm {a b : Value} (h : Apart a b) : Apart b a := by
 rcases h with h | h
 · cases hb : b.ownBlock with
   | none => exact .inl hb
   | some k => exact .inr (by rw [hb, h]; simp)
 · exact .inr (fun e => h e.symm)
def Row (w : World) (v : Value) (zs : List Int) : Prop := ∃ a c, v = .slice a zs.length c ∧ Reads w a zs.length zs ∧ (a = none → c = 0) ∧ zs.length ≤ maxLen
theorem Row.below {w w' : World} {v : Value} {zs : List Int} (h : Row w v zs) {B : Nat} (hb : Below B w w') (hB : w.heap.size ≤ B) : Row w' v zs := by
 obtain ⟨a, c, h1, h2, h3⟩ := h
 exact ⟨a, c, h1, h2.below hb hB, h3⟩
theorem Row.own {w : World} {base : Nat} {v : Value} {n : Nat} {zs : List Int} (h : w.ownsRow base 5 1 v n (bys zs)) (hbd : ∀ i, 0 ≤ zs.getD i 0 ∧ zs.getD i 0 ≤ 255) : Row w v zs := by
 have hl : zs.length = n := by have := h.1; simpa [bys] using this
 obtain ⟨a, c, rfl, r, d⟩ := Reads.own h hbd
 subst hl
 refine ⟨a, c, rfl, r, ?_, ?_⟩
 · intro ha; subst ha
   rcases h.2 with ⟨h1, _⟩ | ⟨g, cap, cur, h1, _⟩
   · exact (Value.slice.inj h1).2.2
   · exact absurd (Value.slice.inj h1).1 (by simp)
 · rcases h.2 with ⟨_, h1⟩ | ⟨g, cap, cur, _, _, _, h1, h2, _⟩
   · rw [h1]; exact Nat.zero_le _
   · exact Nat.le_trans h1 h2
structure Bands (w : World) (lo hi : Nat) (xs : List Value) (ss : List (List Int)) : Prop where
 len : xs.length = ss.length
 own : ∀ i, w.ownsRow lo 5 1 (xs.getD i nilS) (ss.getD i []).length (bys (ss.getD i []))
 top : ∀ x ∈ xs, ∀ g, x.ownBlock = some g → g < hi
 apart : xs.Pairwise Apart
 bd : ∀ i j, 0 ≤ (ss.getD i []).getD j 0 ∧ (ss.getD i []).getD j 0 ≤ 255
theorem getD_mem_or {α : Type} (xs : List α) (i : Nat) (d : α) : xs.getD i d = d ∨ xs.getD i d ∈ xs := by
 by_cases h : i < xs.length
 · right
   rw [List.getD_eq_getElem?_getD, List.getElem?_eq_getElem h]
   exact List.getElem_mem h
 · left
   rw [List.getD_eq_getElem?_getD, List.getElem?_eq_none (by omega)]; rfl
theorem Bands.nil (w : World) (lo hi : Nat) : Bands w lo hi [] [] :=
 ⟨rfl, fun _ => World.ownsRow_nil _ _ _ _, fun x hx => (by cases hx), List.Pairwise.nil, fun i j => by simp⟩
theorem Bands.inr {w : World} {lo hi : Nat} {xs : List Value} {ss : List (List Int)} (h : Bands w lo hi xs ss) (i : Nat) : ∀ g, (xs.getD i nilS).ownBlock = some g → lo ≤ g ∧ g < hi := by
 intro g hg
 refine ⟨((h.own i).lt g hg).1, ?_⟩
 rcases getD_mem_or xs i nilS with e | e
 · rw [e] at hg; cases hg
 · exact h.top _ e g hg
theorem Bands.agree {w w' : World} {lo hi : Nat} {xs : List Value} {ss : List (List Int)} (h : Bands w lo hi xs ss) (ha : Agree lo hi w w') : Bands w' lo hi xs ss :=
 ⟨h.len, fun i => owns_agree (h.own i) ha (h.inr i), h.top, h.apart, h.bd⟩
theorem Bands.mono {w : World} {lo hi lo' hi' : Nat} {xs : List Value} {ss : List (List Int)} (h : Bands w lo hi xs ss) (hl : lo' ≤ lo) (hh : hi ≤ hi') : Bands w lo' hi' xs ss :=
 ⟨h.len, fun i => owns_lower (h.own i) hl, fun x hx g hg => Nat.lt_of_lt_of_le (h.top x hx g hg) hh, h.apart, h.bd⟩
theorem Bands.row {w : World} {lo hi : Nat} {xs : List Value} {ss : List (List Int)} (h : Bands w lo hi xs ss) (i : Nat) : Row w (xs.getD i nilS) (ss.getD i []) := Row.own (h.own i) (h.bd i)
theorem getD_app {α : Type} (xs ys : List α) (i : Nat) (d : α) : (xs ++ ys).getD i d = if i < xs.length then xs.getD i d else ys.getD (i - xs.length) d := by
 simp only [List.getD_eq_getElem?_getD, List.getElem?_append]
 split <;> rfl
theorem getD_set' {α : Type} (xs : List α) (i j : Nat) (v d : α) (hi : i < xs.length) : (xs.set i v).getD j d = if j = i then v else xs.getD j d := by
 simp only [List.getD_eq_getElem?_getD, List.getElem?_set]
 by_cases h : i = j
 · subst h; simp [hi]
 · rw [if_neg h, if_neg (fun e => h e.symm)]
theorem Bands.append {w : World} {lo mid hi : Nat} {xs ys : List Value} {ss ts : List (List Int)} (h : Bands w lo mid xs ss) (k : Bands w mid hi ys ts) (h1 : lo ≤ mid) (h2 : mid ≤ hi) : Bands w lo hi (xs ++ ys) (ss ++ ts) := by
 refine ⟨by rw [List.length_append, List.length_append, h.len, k.len], ?_, ?_, ?_, ?_⟩
 · intro i
   rw [getD_app, getD_app, ← h.len]
   split
   · exact h.own i
   · exact owns_lower (k.own _) h1
 · intro x hx g hg
   rcases List.mem_append.1 hx with hx | hx
   · exact Nat.lt_of_lt_of_le (h.top x hx g hg) h2
   · exact k.top x hx g hg
 · refine List.pairwise_append.2 ⟨h.apart, k.apart, fun a ha b hb => ?_⟩
   cases hA : a.ownBlock with
   | none => exact .inl hA
   | some g =>
    refine .inr (fun e => ?_)
    rw [hA] at e
    have h3 := h.top a ha g hA
    obtain ⟨i, hi, rfl⟩ := List.mem_iff_getElem.1 hb
    have := (k.inr i g (by rw [List.getD_eq_getElem?_getD, List.getElem?_eq_getElem hi]; exact e.symm)).1
    omega
 · intro i j
   rw [getD_app]
   split
   · exact h.bd i j
   · exact k.bd _ j
theorem Bands.one {w : World} {lo hi : Nat} {v : Value} {z : List Int} (h : w.ownsRow lo 5 1 v z.length (bys z)) (hb : ∀ j, 0 ≤ z.getD j 0 ∧ z.getD j 0 ≤ 255) (hh : w.heap.size ≤ hi) : Bands w lo hi [v] [z] := by
 refine ⟨rfl, ?_, ?_, List.pairwise_singleton _ _, ?_⟩
 · intro i
   cases i with
   | zero => exact h
   | succ i => simpa [bys, nilS] using World.ownsRow_nil w lo 5 1
 · intro x hx g hg
   obtain rfl := List.mem_singleton.1 hx
   exact Nat.lt_of_lt_of_le (h.lt g hg).2 hh
 · intro i j
   cases i with
   | zero => exact hb j
   | succ i => simp
theorem Bands.snoc {w : World} {lo mid hi : Nat} {xs : List Value} {ss : List (List Int)} {v : Value} {z : List Int} (h : Bands w lo mid xs ss) (h1 : lo ≤ mid) (h2 : mid ≤ hi) (o : w.ownsRow mid 5 1 v z.length (bys z)) (hb : ∀ j, 0 ≤ z.getD j 0 ∧ z.getD j 0 ≤ 255) (hh : w.heap.size ≤ hi) : Bands w lo hi (xs ++ [v]) (ss ++ [z]) :=
 h.append (Bands.one o hb hh) h1 h2
theorem Bands.put {w w' : World} {lo hi : Nat} {xs : List Value} {ss : List (List Int)} (h : Bands w lo hi xs ss) {i : Nat} (hi' : i < ss.length) {z : List Int}
 (hg : w.grownBy w' (xs.getD i nilS).ownBlock) (o : w'.ownsRow lo 5 1 (xs.getD i nilS) z.length (bys z)) (hb : ∀ j, 0 ≤ z.getD j 0 ∧ z.getD j 0 ≤ 255) : Bands w' lo hi xs (ss.set i z) := by
 refine ⟨by rw [List.length_set]; exact h.len, ?_, h.top, h.apart, ?_⟩
 · intro j
   rw [getD_set' ss i j z [] hi']
   split
   · rename_i e; subst e; exact o
   · rename_i e
     refine (h.own j).kept hg ?_
     by_cases hj : j < xs.length
     · have hl := h.len
       have hx : ∀ a b, a < b → b < xs.length → Apart (xs.getD a nilS) (xs.getD b nilS) := by
        intro a b hab hbl
        have := List.pairwise_iff_getElem.1 h.apart a b (by omega) hbl hab
        rw [List.getD_eq_getElem?_getD, List.getD_eq_getElem?_getD, List.getElem?_eq_getElem hbl, List.getElem?_eq_getElem (show a < xs.length by omega)]
        exact this
       by_cases hij : j < i
       · exact hx j i hij (by omega)
       · exact (hx i j (by omega) hj).symm
     · left
       rw [List.getD_eq_getElem?_getD, List.getElem?_eq_none (by omega)]; rfl
 · intro j q
   rw [getD_set' ss i j z [] hi']
   split
   · exact hb q
   · exact h.bd j q
theorem Bands.beside {w w' : World} {lo hi : Nat} {xs : List Value} {ss : List (List Int)} (h : Bands w lo hi xs ss) {row : Option Nat} (hg : w.grownBy w' row) (hne : ∀ i, (xs.getD i nilS).ownBlock = none ∨ (xs.getD i nilS).ownBlock ≠ row) : Bands w' lo hi xs ss :=
 ⟨h.len, fun i => (h.own i).kept hg (hne i), h.top, h.apart, h.bd⟩
end Go.Proofs.Ytphmlndkjgldkaa
/- Rows told apart by their type. No statement of its own; no conditions. -/

namespace Go.Proofs.Ytphmlndkjgldkaa
open Go.RowKit
end Go.Proofs.Ytphmlndkjgldkaa
/- A slice of byte slices, read; the contract of the program's joined. Conditions: lists of at most 2^21 bytes together. -/



namespace Go.Proofs.Ytphmlndkjgldkaa
open Go.RowKit
set_option maxRecDepth 100000
end Go.Proofs.Ytphmlndkjgldkaa
/- The contracts of the laws' helpers over slices of byte slices: toByteSS, eqByteSS, szByteS, szByteSS, markByteSS, heldByteSS; such a slice that came in, read. Conditions: lists of at most 2^21 bytes together where memory is made or counted. -/







namespace Go.Proofs.Ytphmlndkjgldkaa
open Go.RowKit Go.ChangeShapes Go.WideShapes Go.Deep
set_option maxRecDepth 100000
theorem take_snoc {α : Type} (xs : List α) (k : Nat) (d : α) (h : k < xs.length) : xs.take (k + 1) = xs.take k ++ [xs.getD k d] := by
 rw [List.take_add_one, List.getElem?_eq_getElem h, Option.toList_some]
 simp [List.getD, h]
section
variable {H : Type} {enc : TypeId × Value → H} {w : World} {base : Nat} {held : Bool}
end
end Go.Proofs.Ytphmlndkjgldkaa
/- A page in a block of its own, and what it leads to; a page whose memory is the call's own. No statement of its own; no conditions. -/

namespace Go.Proofs.Ytphmlndkjgldkaa
open Go.RowKit
section
variable {w w' : World} {g lo : Nat} {L : Int} {a : Option Addr} {n c : Nat} {ss ss' : List (List Int)}
end
section
variable {w w' : World} {lo hi g : Nat} {v : Value} {L : Int} {a : Option Addr} {n c : Nat} {ss ss' : List (List Int)}
end
end Go.Proofs.Ytphmlndkjgldkaa
/- The contracts of the laws' toPage, szPage, eqPage, markPage, heldPage; a page that came in, read. Conditions: lists of at most 2^21 bytes together where memory is made or counted. -/

namespace Go.Proofs.Ytphmlndkjgldkaa
open Go.RowKit
set_option maxRecDepth 100000
theorem heap_set_ne (w : World) (g o k : Nat) (u : Value) (h : k ≠ g) : (w.setCell ⟨g, o, none⟩ u).heap[k]? = w.heap[k]? := heap_setCell_other w ⟨g, o, none⟩ k u (by simpa using h)
theorem set_size (w : World) (a : Addr) (u : Value) : (w.setCell a u).heap.size = w.heap.size := by simp
section
variable {H : Type} {enc : TypeId × Value → H} {w : World} {base : Nat} {held : Bool}
end
end Go.Proofs.Ytphmlndkjgldkaa
/- A region that draws its order, one of whose operations (number L, a store) waits for all that read: a condition on the world that is shown behind every operation but that one. No statement of its own; no conditions. -/

namespace Go.Proofs.Ytphmlndkjgldkaa
open Go
def waitsFor (md : Region.Mode) (ops : Array Oper) (L i : Nat) : Bool :=
 match ops[L]? with
 | some o => o.after.any fun e => Region.binds md e && e.on == i
 | none => false
section
variable {P : Program} {ops : Array Oper} {Q : Exit → Act → World → Prop} {md : Region.Mode} {S : World → Prop} {L : Nat}
def anyK (P : Program) (md : Region.Mode) (ops : Array Oper) (Q : Exit → Act → World → Prop) (S : World → Prop) (L : Nat) : Nat → Array Bool → Act → World → Prop
 | 0, listed, a, w => Region.ready md ops listed = [] ∧ Q .normal a w
 | n + 1, listed, a, w => (Region.ready md ops listed = [] → Q .normal a w) ∧
  ∀ i ∈ Region.ready md ops listed, wpOp P ops Q i (fun a' w' => (i = L ∨ S w') ∧ anyK P md ops Q S L n (listed.setIfInBounds i true) a' w') a w
theorem anyK_any : ∀ (n : Nat) (listed : Array Bool) (a : Act) (w : World), anyK P md ops Q S L n listed a w → wpAny P md ops Q n listed a w
 | 0, _, _, _, h => h
 | n + 1, _, _, _, h => ⟨h.1, fun i hi => wpOp_mono (fun a' w' k => anyK_any n _ a' w' k.2) (h.2 i hi)⟩
theorem anyK_first {i : Nat} {oi : Oper} {v : Value} (hi : ops[i]? = some oi) (hsel : ∀ (j : Nat) (o : Oper) cs b, ops[j]? = some o → o.op ≠ .select cs b)
 (hQ : ∀ c a w, Q (.panic c) (a.put oi.dst v) w → Q (.panic c) a w) (hL : waitsFor md ops L i = true) (n : Nat) : ∀ (listed : Array Bool) (a : Act) (w : World),
  (∀ j oj, ops[j]? = some oj → j ≠ i → listed.getD j true = false → (∀ e ∈ oj.after, Region.binds md e = true → e.on ≠ i) → oi.apart ops oj = true) →
  i ∈ Region.ready md ops listed → YieldsIf P ops S oi v a → S w →
  anyK P md ops Q S L n (listed.setIfInBounds i true) (a.put oi.dst v) w → anyK P md ops Q S L (n + 1) listed a w := by
 induction n with
 | zero =>
  intro listed a w _ hr hy hS H
  refine ⟨fun e => absurd hr (by rw [e]; simp), fun j hj => ?_⟩
  rcases Nat.decEq j i with hne | heq
  · have hm := ready_mono hj hne
    rw [H.1] at hm
    cases hm
  · subst heq
    exact hy.wpOp hi hS ⟨.inr hS, H⟩
 | succ n ih =>
  intro listed a w hfree hr hy hS H
  refine ⟨fun e => absurd hr (by rw [e]; simp), fun j hj => ?_⟩
  rcases Nat.decEq j i with hne | heq
  · obtain ⟨hju, oj, hoj, hall⟩ := mem_ready.1 hj
    have hunl := (mem_ready.1 hr).1
    have hno : ∀ e ∈ oj.after, Region.binds md e = true → e.on ≠ i := by
     intro e he hb heq
     have h1 := hall e he hb
     rw [heq] at h1
     by_cases hsz : i < listed.size
     · simp [hsz] at hunl h1
       rw [hunl] at h1
       cases h1
     · simp [Array.getElem?_eq_none (Nat.le_of_not_lt hsz)] at h1
    have hjL : j ≠ L := by
     intro e
     subst e
     simp only [waitsFor, hoj] at hL
     obtain ⟨e, he, hb⟩ := Array.any_eq_true'.1 hL
     simp only [Bool.and_eq_true, beq_iff_eq] at hb
     exact hno e he hb.1 hb.2
    have step := wpOp_putIf hoj (hfree j oj hoj hne hju hno) (fun cs b => hsel i oi cs b hi) (fun cs b => hsel j oj cs b hoj) hQ hy (H.2 j (ready_mono hj hne))
    refine wpOp_mono (fun a' w' k => ?_) step
    obtain ⟨k1, k2, k3⟩ := k
    rcases k2 with k2 | k2
    · exact absurd k2 hjL
    · refine ⟨.inr k2, ih (listed.setIfInBounds j true) a' w' ?_ (ready_mono hr (fun e => hne e.symm)) k1 k2 ?_⟩
      · intro q oq hq hqi hun hnq
        refine hfree q oq hq hqi ?_ hnq
        by_cases hjq : j = q
        · subst hjq; exact hju
        · rw [getD_set_ne true hjq] at hun; exact hun
      · rw [Array.setIfInBounds_comm _ _ hne]
        exact k3
  · subst heq
    exact hy.wpOp hi hS ⟨.inr hS, H⟩
theorem anyK_take {i : Nat} {oi : Oper} {v : Value} {n : Nat} {listed : Array Bool} {a : Act} {w : World} (hi : ops[i]? = some oi) (hs : Region.noSelect ops = true) (hf : Region.free md ops listed i = true) (hr : (Region.ready md ops listed).contains i = true) (hL : waitsFor md ops L i = true)
 (hQ : ∀ c a w, Q (.panic c) (a.put oi.dst v) w → Q (.panic c) a w) (hw : Region.wanted oi (yielded ops a.tmps) = true) (hS : S w) (hy : ∀ w, S w → (execOp a.eval oi).run P w = .ok (.value v) w) (d : Option Tmp) (hd : oi.dst = d)
 (h : anyK P md ops Q S L n (listed.setIfInBounds i true) (a.put d v) w) : anyK P md ops Q S L (n + 1) listed a w :=
 anyK_first hi (Region.noSelect_spec hs) hQ hL n listed a w (Region.free_spec hi hf) (by simpa using hr) (.inl ⟨hw, hy⟩) hS (by rw [hd]; exact h)
theorem anyK_step {i : Nat} {o : Oper} {n : Nat} {listed : Array Bool} {a : Act} {w : World} (hr : Region.ready md ops listed = [i]) (ho : ops[i]? = some o)
 (h : ∀ K : Act → World → Prop, Shut (∀ a w, S w → (S w → anyK P md ops Q S L n (listed.setIfInBounds i true) a w) → K a w) → if Region.wanted o (yielded ops a.tmps) = true then Oper.wp P o a w K Q else K (a.put o.dst undef) w) : anyK P md ops Q S L (n + 1) listed a w := by
 refine ⟨fun e => absurd e (by rw [hr]; simp), fun j hj => ?_⟩
 rw [hr] at hj
 obtain rfl := List.mem_singleton.1 hj
 exact wpOp_step ho (fun K hK => h K (fun a w hS hW => hK a w ⟨.inr hS, hW hS⟩))
theorem anyK_last {o : Oper} {n : Nat} {listed : Array Bool} {a : Act} {w : World} (hr : Region.ready md ops listed = [L]) (ho : ops[L]? = some o)
 (h : ∀ K : Act → World → Prop, Shut (∀ a w, anyK P md ops Q S L n (listed.setIfInBounds L true) a w → K a w) → if Region.wanted o (yielded ops a.tmps) = true then Oper.wp P o a w K Q else K (a.put o.dst undef) w) : anyK P md ops Q S L (n + 1) listed a w := by
 refine ⟨fun e => absurd e (by rw [hr]; simp), fun j hj => ?_⟩
 rw [hr] at hj
 obtain rfl := List.mem_singleton.1 hj
 exact wpOp_step ho (fun K hK => h K (fun a w hW => hK a w ⟨.inl rfl, hW⟩))
theorem anyK_done {listed : Array Bool} {a : Act} {w : World} (hr : Region.ready md ops listed = []) (h : Q .normal a w) : ∀ n, anyK P md ops Q S L n listed a w
 | 0 => ⟨hr, h⟩
 | _ + 1 => ⟨fun _ => h, by rw [hr]; simp⟩
theorem region_K {id : Nat} {a : Act} {w : World} (L : Nat) (S : World → Prop) (hm : P.follows .mixedOrders = true) (hS : S w.drew)
 (h : S w.drew → anyK P .any ops Q S L ops.size (Array.replicate ops.size false) a w.drew) : (Code.region id ops true).wp P Q a w :=
 wp_region_any hm (anyK_any _ _ _ _ (h hS))
end
end Go.Proofs.Ytphmlndkjgldkaa
/- A region that draws its order and writes nothing: what reads is taken first. No statement of its own; no conditions. -/

namespace Go.Proofs.Ytphmlndkjgldkaa
open Go
section
variable {P : Program} {ops : Array Oper} {Q : Exit → Act → World → Prop} {md : Region.Mode} {S : World → Prop} {L : Nat}
theorem anyK_first2 {i : Nat} {oi : Oper} {v : Value} (hi : ops[i]? = some oi) (hsel : ∀ (j : Nat) (o : Oper) cs b, ops[j]? = some o → o.op ≠ .select cs b)
 (hQ : ∀ c a w, Q (.panic c) (a.put oi.dst v) w → Q (.panic c) a w) (hL : ops[L]? = none) (n : Nat) : ∀ (listed : Array Bool) (a : Act) (w : World),
  (∀ j oj, ops[j]? = some oj → j ≠ i → listed.getD j true = false → (∀ e ∈ oj.after, Region.binds md e = true → e.on ≠ i) → oi.apart ops oj = true) →
  i ∈ Region.ready md ops listed → YieldsIf P ops S oi v a → S w →
  anyK P md ops Q S L n (listed.setIfInBounds i true) (a.put oi.dst v) w → anyK P md ops Q S L (n + 1) listed a w := by
 induction n with
 | zero =>
  intro listed a w _ hr hy hS H
  refine ⟨fun e => absurd hr (by rw [e]; simp), fun j hj => ?_⟩
  rcases Nat.decEq j i with hne | heq
  · have hm := ready_mono hj hne
    rw [H.1] at hm
    cases hm
  · subst heq
    exact hy.wpOp hi hS ⟨.inr hS, H⟩
 | succ n ih =>
  intro listed a w hfree hr hy hS H
  refine ⟨fun e => absurd hr (by rw [e]; simp), fun j hj => ?_⟩
  rcases Nat.decEq j i with hne | heq
  · obtain ⟨hju, oj, hoj, hall⟩ := mem_ready.1 hj
    have hunl := (mem_ready.1 hr).1
    have hno : ∀ e ∈ oj.after, Region.binds md e = true → e.on ≠ i := by
     intro e he hb heq
     have h1 := hall e he hb
     rw [heq] at h1
     by_cases hsz : i < listed.size
     · simp [hsz] at hunl h1
       rw [hunl] at h1
       cases h1
     · simp [Array.getElem?_eq_none (Nat.le_of_not_lt hsz)] at h1
    have hjL : j ≠ L := by
     intro e
     subst e
     rw [hL] at hoj
     cases hoj
    have step := wpOp_putIf hoj (hfree j oj hoj hne hju hno) (fun cs b => hsel i oi cs b hi) (fun cs b => hsel j oj cs b hoj) hQ hy (H.2 j (ready_mono hj hne))
    refine wpOp_mono (fun a' w' k => ?_) step
    obtain ⟨k1, k2, k3⟩ := k
    rcases k2 with k2 | k2
    · exact absurd k2 hjL
    · refine ⟨.inr k2, ih (listed.setIfInBounds j true) a' w' ?_ (ready_mono hr (fun e => hne e.symm)) k1 k2 ?_⟩
      · intro q oq hq hqi hun hnq
        refine hfree q oq hq hqi ?_ hnq
        by_cases hjq : j = q
        · subst hjq; exact hju
        · rw [getD_set_ne true hjq] at hun; exact hun
      · rw [Array.setIfInBounds_comm _ _ hne]
        exact k3
  · subst heq
    exact hy.wpOp hi hS ⟨.inr hS, H⟩
theorem anyK_take2 {i : Nat} {oi : Oper} {v : Value} {n : Nat} {listed : Array Bool} {a : Act} {w : World} (hi : ops[i]? = some oi) (hs : Region.noSelect ops = true) (hf : Region.free md ops listed i = true) (hr : (Region.ready md ops listed).contains i = true) (hL : ops[L]? = none)
 (hQ : ∀ c a w, Q (.panic c) (a.put oi.dst v) w → Q (.panic c) a w) (hw : Region.wanted oi (yielded ops a.tmps) = true) (hS : S w) (hy : ∀ w, S w → (execOp a.eval oi).run P w = .ok (.value v) w) (d : Option Tmp) (hd : oi.dst = d)
 (h : anyK P md ops Q S L n (listed.setIfInBounds i true) (a.put d v) w) : anyK P md ops Q S L (n + 1) listed a w :=
 anyK_first2 hi (Region.noSelect_spec hs) hQ hL n listed a w (Region.free_spec hi hf) (by simpa using hr) (.inl ⟨hw, hy⟩) hS (by rw [hd]; exact h)
end
theorem anyK_two {P : Program} {ops : Array Oper} {Q : Exit → Act → World → Prop} {md : Region.Mode} {S : World → Prop} {L i j : Nat} {oi oj : Oper} {n : Nat} {listed : Array Bool} {a : Act} {w : World} (hr : Region.ready md ops listed = [i, j]) (hoi : ops[i]? = some oi) (hoj : ops[j]? = some oj)
 (hi : ∀ K : Act → World → Prop, Shut (∀ a w, S w → (S w → anyK P md ops Q S L n (listed.setIfInBounds i true) a w) → K a w) → if Region.wanted oi (yielded ops a.tmps) = true then Oper.wp P oi a w K Q else K (a.put oi.dst undef) w)
 (hj : ∀ K : Act → World → Prop, Shut (∀ a w, S w → (S w → anyK P md ops Q S L n (listed.setIfInBounds j true) a w) → K a w) → if Region.wanted oj (yielded ops a.tmps) = true then Oper.wp P oj a w K Q else K (a.put oj.dst undef) w) : anyK P md ops Q S L (n + 1) listed a w := by
 refine ⟨fun e => absurd e (by rw [hr]; simp), fun q hq => ?_⟩
 rw [hr] at hq
 rcases List.mem_cons.1 hq with rfl | hq
 · exact wpOp_step hoi (fun K hK => hi K (fun a w hS hW => hK a w ⟨.inr hS, hW hS⟩))
 · obtain rfl := List.mem_singleton.1 hq
   exact wpOp_step hoj (fun K hK => hj K (fun a w hS hW => hK a w ⟨.inr hS, hW hS⟩))
end Go.Proofs.Ytphmlndkjgldkaa
/- A region that draws its order: what stands may become more on the way; what is not wanted is passed by. No statement of its own; no conditions. -/

namespace Go.Proofs.Ytphmlndkjgldkaa
open Go
section
variable {P : Program} {ops : Array Oper} {Q : Exit → Act → World → Prop} {md : Region.Mode} {S S' : World → Prop} {L : Nat}
theorem anyK_skip {i : Nat} {oi : Oper} {n : Nat} {listed : Array Bool} {a : Act} {w : World} (hi : ops[i]? = some oi) (hs : Region.noSelect ops = true) (hf : Region.free md ops listed i = true) (hr : (Region.ready md ops listed).contains i = true) (hL : ops[L]? = none)
 (hQ : ∀ c a w, Q (.panic c) (a.put oi.dst undef) w → Q (.panic c) a w) (hw : Region.wanted oi (yielded ops a.tmps) = false) (hS : S w) (d : Option Tmp) (hd : oi.dst = d)
 (h : anyK P md ops Q S L n (listed.setIfInBounds i true) (a.put d undef) w) : anyK P md ops Q S L (n + 1) listed a w :=
 anyK_first2 hi (Region.noSelect_spec hs) hQ hL n listed a w (Region.free_spec hi hf) (by simpa using hr) (.inr ⟨hw, rfl⟩) hS (by rw [hd]; exact h)
end
end Go.Proofs.Ytphmlndkjgldkaa
/- An append of whatever row to a row of the call's own, at a step of a region that draws and at a plain one; rows of rows that grow. No statement of its own; no conditions. -/




namespace Go.Proofs.Ytphmlndkjgldkaa
open Go.RowKit
theorem own_sl {w : World} {base n : Nat} {e : TypeId} {s : Nat} {v : Value} {xs : List Value} (h : w.ownsRow base e s v n xs) : ∃ a c, v = .slice a n c := by
 rcases h.2 with ⟨rfl, rfl⟩ | ⟨g, cap, cur, rfl, _⟩
 · exact ⟨none, 0, rfl⟩
 · exact ⟨_, cap, rfl⟩
section
variable {P : Program} {w : World}
theorem run_append_row (t ty : TypeId) (base : Nat) (e : TypeId) (i : TypeInfo) (z : Value) (size bytes : Nat) (ht : P.underlying t = some (.slice e)) (hi : P.info? e = some i) (hz : i.zero = some z)
 (hsize : i.size = size) (hby : i.bytes = bytes) (hzs : z.cells.size = size) (hsz : 0 < size)
 (v : Value) (n : Nat) (xs : List Value) (hown : w.ownsRow base e size v n xs)
 (ad : Option Addr) (m c : Nat) (news : List Value) (hl : news.length = m * size) (hnews : (ad = none ∧ c = 0) ∨ ∃ p, ad = some p ∧ ∀ j u, news[j]? = some u → w.cell? (p.add j) = some u) (hnil : ad = none → m = 0) (h1 : ∀ u ∈ news, u.oneCell' = true)
 (h63 : n + m ≤ maxLen) (hbytes : (n + m) * bytes ≤ 140737488355328) (hbase : base ≤ w.heap.size) :
 ∃ a' cap w', (Builtin.append_ #[t, t] ty #[v, .slice ad m c]).run P w = .ok (.slice a' (n + m) cap) w' ∧
  w'.ownsRow base e size (.slice a' (n + m) cap) (n + m) (xs ++ news) ∧ w.grownBy w' v.ownBlock := by
 rcases hnews with ⟨rfl, rfl⟩ | ⟨p, rfl, hn⟩
 · obtain rfl := hnil rfl
   obtain rfl : news = [] := List.eq_nil_of_length_eq_zero (by omega)
   obtain ⟨a', c', rfl⟩ := own_sl hown
   exact ⟨a', c', w, run_append_owned_none (P := P) (w := w) base t ty e i size ht hi _ n xs hown, by simpa using hown, grown_refl _ _⟩
 · obtain ⟨v', w', hr, h2, h3, _, _⟩ := run_append_own_at (P := P) w base t ty e i z size bytes ht hi hz hsize hby hzs hsz v n xs hown p m c news hl hn h1 h63 hbytes hbase
   obtain ⟨a', c', rfl⟩ := own_sl h2
   exact ⟨a', c', w', hr, h2, h3⟩
theorem wp_append_row {o : Oper} {a : Act} {K : Act → World → Prop} {Q : Exit → Act → World → Prop} (s x : Operand) (t : TypeId)
 (ho : o.op = .call { callee := .builtin .append, args := #[s, x], argTypes := #[t, t] })
 (base : Nat) (e : TypeId) (i : TypeInfo) (z : Value) (size bytes : Nat) (ht : P.underlying t = some (.slice e)) (hi : P.info? e = some i) (hz : i.zero = some z)
 (hsize : i.size = size) (hby : i.bytes = bytes) (hzs : z.cells.size = size) (hsz : 0 < size)
 (v : Value) (n : Nat) (xs : List Value) (hs : a.eval s = v) (hown : w.ownsRow base e size v n xs)
 (ad : Option Addr) (m c : Nat) (news : List Value) (hx : a.eval x = .slice ad m c) (hl : news.length = m * size) (hnews : (ad = none ∧ c = 0) ∨ ∃ p, ad = some p ∧ ∀ j u, news[j]? = some u → w.cell? (p.add j) = some u) (hnil : ad = none → m = 0) (h1 : ∀ u ∈ news, u.oneCell' = true)
 (h63 : n + m ≤ maxLen) (hbytes : (n + m) * bytes ≤ 140737488355328) (hbase : base ≤ w.heap.size)
 (h : ∀ a' cap w', w'.ownsRow base e size (.slice a' (n + m) cap) (n + m) (xs ++ news) → w.grownBy w' v.ownBlock → K (a.put o.dst (.slice a' (n + m) cap)) w') : o.wp P a w K Q := by
 obtain ⟨a', cap, w', hr, h2, h3⟩ := run_append_row (P := P) (w := w) t o.type base e i z size bytes ht hi hz hsize hby hzs hsz v n xs hown ad m c news hl hnews hnil h1 h63 hbytes hbase
 unfold Oper.wp execOp
 simp only [ho, resolve, invoke, builtin, Sem.run_bind, Sem.run_pure, Result.andThen_ok, List.map_toArray, List.map_cons, List.map_nil, hs, hx, hr]
 exact h a' cap w' h2 h3
theorem wpList_append_row {ops : Array Oper} {rest : List Oper} {o : Oper} {a : Act} {Q : Exit → Act → World → Prop} (hgd : o.guard = none) (s x : Operand) (t : TypeId)
 (ho : o.op = .call { callee := .builtin .append, args := #[s, x], argTypes := #[t, t] })
 (base : Nat) (e : TypeId) (i : TypeInfo) (z : Value) (size bytes : Nat) (ht : P.underlying t = some (.slice e)) (hi : P.info? e = some i) (hz : i.zero = some z)
 (hsize : i.size = size) (hby : i.bytes = bytes) (hzs : z.cells.size = size) (hsz : 0 < size)
 (v : Value) (n : Nat) (xs : List Value) (hs : a.eval s = v) (hown : w.ownsRow base e size v n xs)
 (ad : Option Addr) (m c : Nat) (news : List Value) (hx : a.eval x = .slice ad m c) (hl : news.length = m * size) (hnews : (ad = none ∧ c = 0) ∨ ∃ p, ad = some p ∧ ∀ j u, news[j]? = some u → w.cell? (p.add j) = some u) (hnil : ad = none → m = 0) (h1 : ∀ u ∈ news, u.oneCell' = true)
 (h63 : n + m ≤ maxLen) (hbytes : (n + m) * bytes ≤ 140737488355328) (hbase : base ≤ w.heap.size)
 (h : ∀ a' cap w', w'.ownsRow base e size (.slice a' (n + m) cap) (n + m) (xs ++ news) → w.grownBy w' v.ownBlock → wpList P ops Q rest (a.put o.dst (.slice a' (n + m) cap)) w') : wpList P ops Q (o :: rest) a w :=
 wpList_plain hgd fun _ hK => wp_append_row s x t ho base e i z size bytes ht hi hz hsize hby hzs hsz v n xs hs hown ad m c news hx hl hnews hnil h1 h63 hbytes hbase fun a' cap w' h2 h3 => hK _ _ (h a' cap w' h2 h3)
theorem step_append_row {ops : Array Oper} {o : Oper} {a : Act} {K : Act → World → Prop} {Q : Exit → Act → World → Prop} {E : Prop} (hgd : o.guard = none) (s x : Operand) (t : TypeId)
 (ho : o.op = .call { callee := .builtin .append, args := #[s, x], argTypes := #[t, t] })
 (base : Nat) (e : TypeId) (i : TypeInfo) (z : Value) (size bytes : Nat) (ht : P.underlying t = some (.slice e)) (hi : P.info? e = some i) (hz : i.zero = some z)
 (hsize : i.size = size) (hby : i.bytes = bytes) (hzs : z.cells.size = size) (hsz : 0 < size)
 (v : Value) (n : Nat) (xs : List Value) (hs : a.eval s = v) (hown : w.ownsRow base e size v n xs)
 (ad : Option Addr) (m c : Nat) (news : List Value) (hx : a.eval x = .slice ad m c) (hl : news.length = m * size) (hnews : (ad = none ∧ c = 0) ∨ ∃ p, ad = some p ∧ ∀ j u, news[j]? = some u → w.cell? (p.add j) = some u) (hnil : ad = none → m = 0) (h1 : ∀ u ∈ news, u.oneCell' = true)
 (h63 : n + m ≤ maxLen) (hbytes : (n + m) * bytes ≤ 140737488355328) (hbase : base ≤ w.heap.size)
 (h : ∀ a' cap w', w'.ownsRow base e size (.slice a' (n + m) cap) (n + m) (xs ++ news) → w.grownBy w' v.ownBlock → K (a.put o.dst (.slice a' (n + m) cap)) w') :
 if Region.wanted o (yielded ops a.tmps) = true then Oper.wp P o a w K Q else E := by
 have hw : Region.wanted o (yielded ops a.tmps) = true := by simp [Region.wanted, hgd]
 rw [if_pos hw]
 exact wp_append_row s x t ho base e i z size bytes ht hi hz hsize hby hzs hsz v n xs hs hown ad m c news hx hl hnews hnil h1 h63 hbytes hbase h
end
end Go.Proofs.Ytphmlndkjgldkaa
