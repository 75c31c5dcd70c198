/- Texts of this proof in one: Base Help Flo Flx Flv Fli Flw Flb Flq Flf Fsa Fll It1 It2 It3 It4 It5 It6 It7 It8 It9 Kdr. -/
import Derived.WalkKit
import Derived.WalkSpells
import Derived.Laws.CopyOwn
import Derived.Deep.Draws
import Derived.OpenShut
import Derived.Test.YtlapfmfaammheaaRows
import Derived.Deep.QuietTactic
import Derived.BigQuiet
import Derived.Laws.FloatArith
import Derived.Test.YtlapfmfaammheaaChecked
import Derived.WalkLawsBesides
import Derived.Laws.BitsAllLaws
import Derived.Laws.Externs
import Derived.KernelRfl
import Derived.Laws.Tables
import Derived.Laws.AppendOwnNone
import Derived.Deep.RegionHeld3
/- Plain notions for the proofs of this seat: what a slice of bytes reads as, in a world; how that is kept. No statement of its own; no conditions. -/





namespace Go.Proofs.Ytlapfmfaammheaa
open Go.RowKit

/-- The byte cells of a list of numbers. -/
def bys (zs : List Int) : List Value := zs.map (Value.int .u8)
theorem bys_length (zs : List Int) : (bys zs).length = zs.length := by simp [bys]

/-- A slice of n bytes at 'ad' reads, in the world w, as the numbers zs. -/
structure Reads (w : World) (ad : Option Addr) (n : Nat) (zs : List Int) : Prop where
  len : zs.length = n
  cells : n = 0 ∨ ∃ b off, ad = some ⟨b, off, none⟩ ∧ ∀ i, i < n → w.cell? ⟨b, off + i, none⟩ = some (.int .u8 (zs.getD i 0))
  bd : ∀ i, 0 ≤ zs.getD i 0 ∧ zs.getD i 0 ≤ 255

theorem Reads.below {w w' : World} {ad : Option Addr} {n : Nat} {zs : List Int} (h : Reads w ad n zs) {B : Nat} (hb : Below B w w') (hB : w.heap.size ≤ B) : Reads w' ad n zs := by
  refine ⟨h.len, ?_, h.bd⟩
  rcases h.cells with h0 | ⟨b, off, rfl, hc⟩
  · exact .inl h0
  · refine .inr ⟨b, off, rfl, fun i hi => ?_⟩
    have hc' := hc i hi
    have := World.block_lt_of_cell? w _ hc'
    rw [hb.cell (p := ⟨b, off + i, none⟩) (by simp at this ⊢; omega)]
    exact hc'

/-- A row of the call's own, read. -/
theorem Reads.own {w : World} {base : Nat} {v : Value} {n : Nat} {zs : List Int} (h : w.ownsRow base 5 1 v n (bys zs)) (hbd : ∀ i, 0 ≤ zs.getD i 0 ∧ zs.getD i 0 ≤ 255) :
    ∃ ad cap, v = .slice ad n cap ∧ Reads w ad n zs ∧ (ad = none ∨ ∃ g, ad = some ⟨g, 0, none⟩ ∧ base ≤ g ∧ g < w.heap.size) := by
  have hl : zs.length = n := by have := h.1; simpa [bys] using this
  rcases h.2 with ⟨rfl, rfl⟩ | ⟨g, cap, cur, rfl, hb, hg, hnc, hcm, hcs, htake⟩
  · exact ⟨none, 0, rfl, ⟨hl, .inl rfl, hbd⟩, .inl rfl⟩
  · refine ⟨_, cap, rfl, ⟨hl, .inr ⟨g, 0, rfl, fun i hi => ?_⟩, hbd⟩, .inr ⟨g, rfl, hb, (Array.getElem?_eq_some_iff.1 hg).1⟩⟩
    rw [Nat.zero_add, h.cellAt i (by omega)]
    simp [bys, hl, hi]

/-- A fact kept from the walk. -/
theorem hid {p : Prop} (h : p) : Hid p := h

/-- Nothing in memory has turned (draws alone). -/
structure Still (w w' : World) : Prop where
  os : w'.os = w.os
  tape : w'.tape = w.tape
  output : w'.output = w.output
  heap : w'.heap = w.heap
theorem Still.refl (w : World) : Still w w := ⟨rfl, rfl, rfl, rfl⟩
theorem Still.trans {a b c : World} (h : Still a b) (k : Still b c) : Still a c := ⟨k.os.trans h.os, k.tape.trans h.tape, k.output.trans h.output, k.heap.trans h.heap⟩
theorem Still.drewN (w : World) (n : Nat) : Still w (w.drewN n) := ⟨rfl, rfl, rfl, rfl⟩
theorem Still.drew (w : World) : Still w w.drew := ⟨rfl, rfl, rfl, rfl⟩
theorem Still.below {w w' : World} (h : Still w w') (B : Nat) : Below B w w' := ⟨h.os, h.tape, h.output, by rw [h.heap]; exact Nat.le_refl _, fun k _ => by rw [h.heap]⟩
theorem Still.size {w w' : World} (h : Still w w') : w'.heap.size = w.heap.size := by rw [h.heap]
theorem Still.cell {w w' : World} (h : Still w w') (a : Addr) : w'.cell? a = w.cell? a := by simp [World.cell?, h.heap]
theorem Still.frozen {w w' : World} (h : Still w w') (a : Addr) : w'.frozen? a = w.frozen? a := by simp [World.frozen?, h.heap]
theorem Still.reads {w w' : World} (h : Still w w') {ad : Option Addr} {n : Nat} {zs : List Int} (hr : Reads w ad n zs) : Reads w' ad n zs := hr.below (h.below w.heap.size) (Nat.le_refl _)
theorem Still.owns {w w' : World} (h : Still w w') {base : Nat} {e : TypeId} {s : Nat} {v : Value} {n : Nat} {xs : List Value} (ho : w.ownsRow base e s v n xs) : w'.ownsRow base e s v n xs := by
  unfold World.ownsRow at ho ⊢; rw [h.heap]; exact ho

theorem owns_below {w w' : World} {B : Nat} (hb : Below B w w') (hB : w.heap.size ≤ B) {base : Nat} {e : TypeId} {s : Nat} {v : Value} {n : Nat} {xs : List Value} (ho : w.ownsRow base e s v n xs) : w'.ownsRow base e s v n xs := by
  refine ⟨ho.1, ?_⟩
  rcases ho.2 with hn | ⟨g, cap, cur, rfl, hbg, hg, rest⟩
  · exact .inl hn
  · exact .inr ⟨g, cap, cur, rfl, hbg, by rw [hb.block g (by have := (Array.getElem?_eq_some_iff.1 hg).1; omega)]; exact hg, rest⟩

/-- Reading is kept while another row is written. -/
theorem Reads.other {w w' : World} {ad : Option Addr} {n : Nat} {zs : List Int} (h : Reads w ad n zs) {row : Option Nat} (hg : w.grownBy w' row) (hne : ∀ a, ad = some a → some a.block ≠ row) : Reads w' ad n zs := by
  refine ⟨h.len, ?_, h.bd⟩
  rcases h.cells with h0 | ⟨b, off, rfl, hc⟩
  · exact .inl h0
  · exact .inr ⟨b, off, rfl, fun i hi => hg.cell (hc i hi) (hne ⟨b, off, none⟩ rfl)⟩

/-- What markByteS writes: k, k + 1 .., as bytes. -/
def marks (k : Int) (n : Nat) : List Int := (List.range n).map fun i => (k + (i : Nat)) % 256
theorem marks_length (k : Int) (n : Nat) : (marks k n).length = n := by simp [marks]
theorem marks_succ (k : Int) (n : Nat) : marks k (n + 1) = marks k n ++ [(k + (n : Nat)) % 256] := by simp [marks, List.range_succ]
theorem marks_at (k : Int) (n i : Nat) (h : i < n) : (marks k n).getD i 0 = (k + (i : Nat)) % 256 := by simp [marks, h]
theorem marks_bd (k : Int) (n i : Nat) : 0 ≤ (marks k n).getD i 0 ∧ (marks k n).getD i 0 ≤ 255 := by
  by_cases h : i < n
  · rw [marks_at k n i h]; omega
  · simp [marks, h]
theorem set_mid (A : List Value) (X : List Value) (j : Nat) (c : Value) (hA : A.length = j) (hX : j < X.length) : (A ++ X.drop j).set j c = (A ++ [c]) ++ X.drop (j + 1) := by
  rw [List.set_append_right _ _ (by omega), hA, Nat.sub_self, List.drop_eq_getElem_cons hX, List.set_cons_zero]; simp

theorem grown_trans {a b c : World} {row : Option Nat} (h : a.grownBy b row) (k : b.grownBy c row) : a.grownBy c row :=
  ⟨k.os.trans h.os, k.tape.trans h.tape, k.output.trans h.output, Nat.le_trans h.size k.size, fun i hi hr => (k.block i (Nat.lt_of_lt_of_le hi h.size) hr).trans (h.block i hi hr)⟩
theorem grown_refl (w : World) (row : Option Nat) : w.grownBy w row := ⟨rfl, rfl, rfl, Nat.le_refl _, fun _ _ _ => rfl⟩
theorem bys_append (a b : List Int) : bys (a ++ b) = bys a ++ bys b := by simp [bys]

/-- Two rows, the second made behind the first. -/
theorem apart_of {ad ad' : Option Addr} {B lo hi n cap : Nat} (h : ad = none ∨ ∃ g, ad = some ⟨g, 0, none⟩ ∧ lo ≤ g ∧ g < B) (h' : ad' = none ∨ ∃ g, ad' = some ⟨g, 0, none⟩ ∧ B ≤ g ∧ g < hi) :
    ∀ a, ad = some a → some a.block ≠ (Value.slice ad' n cap).ownBlock := by
  intro a ha
  rcases h' with rfl | ⟨g', rfl, h1, h2⟩
  · simp [Value.ownBlock]
  · rcases h with rfl | ⟨g, rfl, h3, h4⟩
    · cases ha
    · cases ha; simp [Value.ownBlock]; omega
theorem own_ge {ad : Option Addr} {B hi n cap : Nat} (h : ad = none ∨ ∃ g, ad = some ⟨g, 0, none⟩ ∧ B ≤ g ∧ g < hi) : ∀ k, (Value.slice ad n cap).ownBlock = some k → B ≤ k := by
  intro k hk
  rcases h with rfl | ⟨g, rfl, h1, h2⟩
  · simp [Value.ownBlock] at hk
  · simp [Value.ownBlock] at hk; omega

/-- A slice of bytes that came in, as the row's step tells it, read. -/
theorem reads_in {w : World} {a : Option Addr} {len cap : Nat} {zs : List Int}
    (h : (a = none ∧ len = 0 ∧ cap = 0 ∧ zs = []) ∨ ∃ x, a = some x ∧ len ≤ cap ∧ cap ≤ maxLen ∧ zs.length = cap ∧ (∀ i, i < zs.length → w.cell? (x.add i) = some (.int .u8 (zs.getD i 0))) ∧ ∀ n ∈ zs, (Lit.int .u8 n).wf = true) :
    Reads w a len (zs.take len) := by
  rcases h with ⟨rfl, rfl, rfl, rfl⟩ | ⟨x, rfl, hlc, hm, hz, hc, hwf⟩
  · exact ⟨rfl, .inl rfl, by simp⟩
  · refine ⟨by simp; omega, ?_, ?_⟩
    · by_cases h0 : len = 0
      · exact .inl h0
      · obtain ⟨b, off, rfl, hc'⟩ := ints_at hc (by omega)
        refine .inr ⟨b, off, rfl, fun i hi => ?_⟩
        rw [hc' i (by omega)]
        simp [hi]
    · intro i
      by_cases hi : i < (zs.take len).length
      · rw [List.getD_eq_getElem?_getD, List.getElem?_eq_getElem hi]
        exact bounds_u8 (hwf _ (List.mem_of_mem_take (List.getElem_mem hi)))
      · rw [List.getD_eq_getElem?_getD, List.getElem?_eq_none (by omega)]; simp

theorem len_in {w : World} {a : Option Addr} {len cap : Nat} {zs : List Int} {k : IntKind}
    (h : (a = none ∧ len = 0 ∧ cap = 0 ∧ zs = []) ∨ ∃ x, a = some x ∧ len ≤ cap ∧ cap ≤ maxLen ∧ zs.length = cap ∧ (∀ i, i < zs.length → w.cell? (x.add i) = some (.int k (zs.getD i 0))) ∧ ∀ n ∈ zs, (Lit.int k n).wf = true) :
    len ≤ maxLen := by
  rcases h with ⟨_, rfl, _⟩ | ⟨_, _, h1, h2, _⟩
  · exact Nat.zero_le _
  · exact Nat.le_trans h1 h2

/-- The cells that an append or a copy takes over. -/
theorem Reads.news {w : World} {a : Addr} {n : Nat} {zs : List Int} (h : Reads w (some a) n zs) : ∀ j u, (bys zs)[j]? = some u → w.cell? (a.add j) = some u := by
  intro j u hu
  have hj : j < zs.length := by
    have := (List.getElem?_eq_some_iff.1 hu).1
    simpa [bys] using this
  rcases h.cells with h0 | ⟨b, off, hb, hc⟩
  · have := h.len; omega
  · cases hb
    have e : (⟨b, off, none⟩ : Addr).add j = ⟨b, off + j, none⟩ := by unfold Addr.add; split <;> simp_all
    rw [e, hc j (by have := h.len; omega)]
    simpa [bys, hj] using hu
theorem bys_one (zs : List Int) : ∀ u ∈ bys zs, u.oneCell' = true := by
  intro u hu
  simp only [bys, List.mem_map] at hu
  obtain ⟨x, _, rfl⟩ := hu
  rfl
theorem Reads.pos {w : World} {ad : Option Addr} {n : Nat} {zs : List Int} (h : Reads w ad n zs) (hn : 0 < n) : ∃ b off, ad = some ⟨b, off, none⟩ := by
  rcases h.cells with h0 | ⟨b, off, hb, _⟩
  · omega
  · exact ⟨b, off, hb⟩

theorem getD_bys (zs : List Int) (i : Nat) : (bys zs)[i]? = (zs[i]?).map (Value.int .u8) := by simp [bys]
end Go.Proofs.Ytlapfmfaammheaa
/- The contracts of the law package's helpers: toByteS, eqByteS, markByteS, heldByteS. Conditions: lengths of at most 2^21 where memory is made or counted. -/




namespace Go.Proofs.Ytlapfmfaammheaa
open Go.RowKit

theorem Try.info5 : (Try.prog.info? 5).map (fun i => (i.zero, i.size, i.bytes)) = some (some (.int .u8 0), 1, 1) := by kernel_rfl

theorem set_take_step (zs : List Int) (k : Nat) (hk : k < zs.length) (m : Nat) (hm : m = zs.length) :
    (bys (zs.take k) ++ List.replicate (m - k) (Value.int .u8 0)).set k (.int .u8 (zs.getD k 0)) = bys (zs.take (k + 1)) ++ List.replicate (m - (k + 1)) (Value.int .u8 0) := by
  subst hm
  apply List.ext_getElem?
  intro j
  simp only [bys, List.getElem?_set, List.getElem?_append, List.getElem?_map, List.getElem?_replicate, List.length_map, List.length_take, List.length_append, List.length_replicate, List.getElem?_take]
  by_cases h1 : k = j
  · subst h1
    simp [hk, show min (k + 1) zs.length = k + 1 by omega, show min k zs.length = k by omega, show zs.length - k ≠ 0 by omega]
  · by_cases h2 : j < k
    · simp [h1, show j < min k zs.length by omega, show j < min (k+1) zs.length by omega, show j < k + 1 by omega, h2]
    · by_cases h3 : j < zs.length
      · simp [h1, show ¬ j < min k zs.length by omega, show ¬ j < min (k+1) zs.length by omega, show j - min k zs.length < zs.length - k by omega, show j - min (k+1) zs.length < zs.length - (k+1) by omega]
      · simp [h1, show ¬ j < min k zs.length by omega, show ¬ j < min (k+1) zs.length by omega, show ¬ j - min k zs.length < zs.length - k by omega, show ¬ j - min (k+1) zs.length < zs.length - (k+1) by omega]

set_option maxHeartbeats 800000 in
theorem toByteS_pos (b off n cap : Nat) (zs : List Int) (w : World) (hz : zs.length = n) (hn : n ≤ 2097152) (hb : b < w.heap.size)
    (hc : ∀ i, i < n → w.cell? ⟨b, off + i, none⟩ = some (.int .u8 (zs.getD i 0))) :
    Calls Try.prog 37 #[.slice (some ⟨b, off, none⟩) n cap] w fun e w' =>
      e = .returned (.slice (some ⟨w.heap.size, 0, none⟩) n n) ∧ w'.ownsRow w.heap.size 5 1 (.slice (some ⟨w.heap.size, 0, none⟩) n n) n (bys zs) ∧ Below w.heap.size w w' := by
  obtain ⟨i0, hi, hz0, hz1, hz2⟩ := info_parts Try.info5
  go_enter Try.func37, Try.ntmps37
  go_wp2_with (at_make; refine wpList_make_full _ rfl _ _ 22 rfl w.heap.size 5 i0 (.int .u8 0) 1 Try.underlying22 hi hz0 hz1 _ _ _ _ n rfl rfl (by omega) (by omega) ?b2 ?b3 (Nat.le_refl _) ?_)
  case b2 => rw [hz2]; omega
  case b3 => unfold maxLen; omega
  intro w0 hown0 hgrow0
  go_wp2
  go_loopw [4] (fun i wr => ∃ k : Nat, k ≤ n ∧ i = .int .i64 k ∧ wr.ownsRow w.heap.size 5 1 (.slice (some ⟨w.heap.size, 0, none⟩) n n) n (bys (zs.take k) ++ List.replicate (n - k) (Value.int .u8 0)) ∧ Below w.heap.size w wr)
    (fun i _ => n - (intOf i).toNat)
  case atStart =>
    refine ⟨0, Nat.zero_le _, rfl, ?_, (Below.refl _ _).grown hgrow0 (Nat.le_refl _) (fun k h => by cases h)⟩
    rw [toList_madeCells_one] at hown0
    simpa [bys] using hown0
  case round =>
    obtain ⟨k, hk, rfl, hown, hnx⟩ := hrel
    by_cases hlt : k < n
    · have hcx : wr.cell? ⟨b, off + k, none⟩ = some (.int .u8 (zs.getD k 0)) := (hnx.cell (by exact hb)).trans (hc k hlt)
      have hcy : wr.cell? ⟨w.heap.size, k, none⟩ = some (.int .u8 0) := by
        rw [hown.cellAt k (by omega), List.getElem?_append_right (by simp [bys]; omega)]
        simp [bys, hz, Nat.min_eq_left hk, show 0 < n - k by omega]
      have hfr : wr.frozen? ⟨w.heap.size, k, none⟩ = false := hown.frozenAt k
      have R := hown.stored k (.int .u8 (zs.getD k 0))
      rw [set_take_step zs k (by omega) n hz.symm] at R
      have R1 := hid R
      clear R hown
      generalize zs.getD k 0 = c at hcx R1
      go_wp2
      go_roundw
      case rel => exact ⟨k + 1, by omega, by go_num, by simpa using R1.out.1, hnx.setCell (Nat.le_refl _) _⟩
      case measure => simp [intOf]; omega
    · go_wp2
      go_ret
      have hkn : k = n := by omega
      subst hkn
      refine ⟨rfl, ?_, hnx⟩
      rw [List.take_of_length_le (by omega)] at hown
      simpa using hown

set_option maxHeartbeats 800000 in
theorem toByteS_zero (ad : Option Addr) (cap : Nat) (w : World) :
    Calls Try.prog 37 #[.slice ad 0 cap] w fun e w' =>
      e = .returned (.slice (some ⟨w.heap.size, 0, none⟩) 0 0) ∧ w'.ownsRow w.heap.size 5 1 (.slice (some ⟨w.heap.size, 0, none⟩) 0 0) 0 (bys []) ∧ Below w.heap.size w w' := by
  obtain ⟨i0, hi, hz0, hz1, hz2⟩ := info_parts Try.info5
  go_enter Try.func37, Try.ntmps37
  go_wp2_with (at_make; refine wpList_make_full _ rfl _ _ 22 rfl w.heap.size 5 i0 (.int .u8 0) 1 Try.underlying22 hi hz0 hz1 _ _ _ _ 0 rfl rfl (by omega) (by omega) ?b2 ?b3 (Nat.le_refl _) ?_)
  case b2 => rw [hz2]; omega
  case b3 => unfold maxLen; omega
  intro w0 hown0 hgrow0
  have H0 := hid hown0
  clear hown0
  go_wp2
  go_loopw [4] (fun i wr => i = .int .i64 (0 : Nat) ∧ wr = w0) (fun i _ => 0)
  case atStart => exact ⟨rfl, rfl⟩
  case round =>
    obtain ⟨rfl, rfl⟩ := hrel
    go_wp2
    go_ret
    refine ⟨rfl, ?_, (Below.refl _ _).grown hgrow0 (Nat.le_refl _) (fun k h => by cases h)⟩
    have h := H0.out
    simpa [bys, madeCells] using h

theorem toByteS_any {ad : Option Addr} {n : Nat} (cap : Nat) {zs : List Int} {w : World} (h : Reads w ad n zs) (hn : n ≤ 2097152) :
    Calls Try.prog 37 #[.slice ad n cap] w fun e w' =>
      e = .returned (.slice (some ⟨w.heap.size, 0, none⟩) n n) ∧ w'.ownsRow w.heap.size 5 1 (.slice (some ⟨w.heap.size, 0, none⟩) n n) n (bys zs) ∧ Below w.heap.size w w' := by
  obtain ⟨hl, hc, _⟩ := h
  by_cases h0 : n = 0
  · subst h0
    obtain rfl : zs = [] := List.eq_nil_of_length_eq_zero hl
    exact toByteS_zero ad cap w
  · rcases hc with h | ⟨b, off, rfl, hc⟩
    · exact absurd h h0
    · exact toByteS_pos b off n cap zs w hl hn (by have := World.block_lt_of_cell? w _ (hc 0 (by omega)); exact this) hc

set_option maxHeartbeats 800000 in
/-- Two slices that read alike are told alike. -/
theorem eqByteS_pos (b off cap b' off' cap' n : Nat) (zs : List Int) (w : World) (hn : n ≤ 2097152)
    (hc : ∀ i, i < n → w.cell? ⟨b, off + i, none⟩ = some (.int .u8 (zs.getD i 0))) (hc' : ∀ i, i < n → w.cell? ⟨b', off' + i, none⟩ = some (.int .u8 (zs.getD i 0))) :
    Calls Try.prog 32 #[.slice (some ⟨b, off, none⟩) n cap, .slice (some ⟨b', off', none⟩) n cap'] w fun e w' => e = .returned (.bool true) ∧ Still w w' := by
  go_enter Try.func32, Try.ntmps32
  go_wp2
  go_loopw [5] (fun i wr => ∃ k m : Nat, k ≤ n ∧ i = .int .i64 k ∧ wr = w.drewN m) (fun i _ => n - (intOf i).toNat)
  case atStart => exact ⟨0, 0, Nat.zero_le _, rfl, rfl⟩
  case round =>
    obtain ⟨k, m, hk, rfl, rfl⟩ := hrel
    by_cases hlt : k < n
    · have h1 := hc k hlt
      have h2 := hc' k hlt
      generalize zs.getD k 0 = c at h1 h2
      have hlt' : (k : Int) < (n : Int) := by omega
      go_wp2
      go_quiet (fail)
      go_wp2
      go_roundw
      case rel => exact ⟨k + 1, _, by omega, by go_num, rfl⟩
      case measure => simp [intOf]; omega
    · go_wp2
      go_ret
      exact ⟨rfl, Still.drewN _ _⟩

set_option maxHeartbeats 800000 in
theorem eqByteS_zero (ad ad' : Option Addr) (cap cap' : Nat) (w : World) :
    Calls Try.prog 32 #[.slice ad 0 cap, .slice ad' 0 cap'] w fun e w' => e = .returned (.bool true) ∧ Still w w' := by
  go_enter Try.func32, Try.ntmps32
  go_wp2
  go_loopw [5] (fun i wr => i = .int .i64 (0 : Nat) ∧ wr = w) (fun _ _ => 0)
  case atStart => exact ⟨rfl, rfl⟩
  case round =>
    obtain ⟨rfl, rfl⟩ := hrel
    go_wp2
    go_ret
    exact ⟨rfl, Still.refl _⟩

theorem eqByteS_any {ad ad' : Option Addr} {n : Nat} (cap cap' : Nat) {zs : List Int} {w : World} (h : Reads w ad n zs) (h' : Reads w ad' n zs) (hn : n ≤ 2097152) :
    Calls Try.prog 32 #[.slice ad n cap, .slice ad' n cap'] w fun e w' => e = .returned (.bool true) ∧ Still w w' := by
  obtain ⟨hl, hc, _⟩ := h
  obtain ⟨hl', hc', _⟩ := h'
  by_cases h0 : n = 0
  · subst h0; exact eqByteS_zero ad ad' cap cap' w
  · rcases hc with h | ⟨b, off, rfl, hc⟩
    · exact absurd h h0
    rcases hc' with h | ⟨b', off', rfl, hc'⟩
    · exact absurd h h0
    exact eqByteS_pos b off cap b' off' cap' n zs w hn hc hc'

set_option maxHeartbeats 800000 in
theorem markByteS_pos (base g n cap : Nat) (k : Int) (xs : List Value) (w : World) (hn : n ≤ 2097152) (hk0 : 0 ≤ k) (hk1 : k ≤ 1000000000)
    (hown : w.ownsRow base 5 1 (.slice (some ⟨g, 0, none⟩) n cap) n xs) :
    Calls Try.prog 34 #[.slice (some ⟨g, 0, none⟩) n cap, .int .i64 k] w fun e w' =>
      e = .returned (.int .i64 (k + n)) ∧ w'.ownsRow base 5 1 (.slice (some ⟨g, 0, none⟩) n cap) n (bys (marks k n)) ∧ w.grownBy w' (some g) := by
  have hxl : xs.length = n := by have := hown.1; omega
  go_enter Try.func34, Try.ntmps34
  go_wp2
  go_loopw [1, 5] (fun kk i wr => ∃ j : Nat, j ≤ n ∧ i = .int .i64 j ∧ kk = .int .i64 (k + j) ∧ wr.ownsRow base 5 1 (.slice (some ⟨g, 0, none⟩) n cap) n (bys (marks k j) ++ xs.drop j) ∧ w.grownBy wr (some g)) (fun _ i _ => n - (intOf i).toNat)
  case atStart => exact ⟨0, Nat.zero_le _, rfl, by simp, by simpa [marks, bys] using hown, ⟨rfl, rfl, rfl, Nat.le_refl _, fun _ _ _ => rfl⟩⟩
  case round =>
    obtain ⟨j, hj, rfl, rfl, hown', hg⟩ := hrel
    by_cases hlt : j < n
    · have hcy : ∃ v, wr.cell? ⟨g, j, none⟩ = some v := by
        rw [hown'.cellAt j (by omega)]
        exact ⟨_, List.getElem?_eq_getElem (by simp [bys, marks]; omega)⟩
      obtain ⟨v, hcy⟩ := hcy
      have hfr : wr.frozen? ⟨g, j, none⟩ = false := hown'.frozenAt j
      have R := hown'.stored j (.int .u8 ((k + j) % 256))
      rw [set_mid _ xs j _ (by simp [bys, marks]) (by omega)] at R
      have R1 := hid R
      clear R hown' hown
      go_wp2
      go_roundw
      case rel =>
        refine ⟨j + 1, by omega, by go_num, by go_num, ?_, grown_trans hg R1.out.2⟩
        rw [marks_succ, bys_append]
        exact R1.out.1
      case measure => simp [intOf]; omega
    · go_wp2
      go_ret
      obtain rfl : j = n := by omega
      rw [List.drop_eq_nil_of_le (by omega), List.append_nil] at hown'
      exact ⟨rfl, hown', hg⟩

set_option maxHeartbeats 800000 in
theorem markByteS_zero (ad : Option Addr) (cap : Nat) (k : Int) (w : World) :
    Calls Try.prog 34 #[.slice ad 0 cap, .int .i64 k] w fun e w' => e = .returned (.int .i64 k) ∧ w' = w := by
  go_enter Try.func34, Try.ntmps34
  go_wp2
  go_loopw [1, 5] (fun kk i wr => i = .int .i64 (0 : Nat) ∧ kk = .int .i64 k ∧ wr = w) (fun _ _ _ => 0)
  case atStart => exact ⟨rfl, rfl, rfl⟩
  case round =>
    obtain ⟨rfl, rfl, rfl⟩ := hrel
    go_wp2
    go_ret
    exact ⟨rfl, rfl⟩

theorem markByteS_any {base n : Nat} {v : Value} (k : Int) {xs : List Value} {w : World} (hn : n ≤ 2097152) (hk0 : 0 ≤ k) (hk1 : k ≤ 1000000000)
    (hown : w.ownsRow base 5 1 v n xs) :
    Calls Try.prog 34 #[v, .int .i64 k] w fun e w' =>
      e = .returned (.int .i64 (k + n)) ∧ w'.ownsRow base 5 1 v n (bys (marks k n)) ∧ w.grownBy w' v.ownBlock := by
  rcases hown.2 with ⟨rfl, rfl⟩ | ⟨g, cap, cur, rfl, _⟩
  · refine (markByteS_zero none 0 k w).mono fun e w' ⟨he, hw⟩ => ?_
    subst hw
    exact ⟨by rw [he]; simp, by simpa [marks, bys] using World.ownsRow_nil w' base 5 1, grown_refl _ _⟩
  · exact markByteS_pos base g n cap k xs w hn hk0 hk1 hown

set_option maxHeartbeats 800000 in
theorem heldByteS_pos (b off cap n : Nat) (k : Int) (w : World) (hn : n ≤ 2097152) (hk0 : 0 ≤ k) (hk1 : k ≤ 1000000000)
    (hc : ∀ i, i < n → w.cell? ⟨b, off + i, none⟩ = some (.int .u8 ((k + (i : Nat)) % 256))) :
    Calls Try.prog 35 #[.slice (some ⟨b, off, none⟩) n cap, .int .i64 k] w fun e w' => e = .returned (.int .i64 (k + n)) ∧ w' = w := by
  go_enter Try.func35, Try.ntmps35
  go_wp2
  go_loopw [1, 5] (fun kk i wr => ∃ j : Nat, j ≤ n ∧ i = .int .i64 j ∧ kk = .int .i64 (k + j) ∧ wr = w) (fun _ i _ => n - (intOf i).toNat)
  case atStart => exact ⟨0, Nat.zero_le _, rfl, by simp, rfl⟩
  case round =>
    obtain ⟨j, hj, rfl, rfl, rfl⟩ := hrel
    by_cases hlt : j < n
    · have h1 := hc j hlt
      go_wp2
      go_roundw
      case rel => exact ⟨j + 1, by omega, by go_num, by go_num, by first | trivial | rfl⟩
      case measure => simp [intOf]; omega
    · go_wp2
      go_ret
      obtain rfl : j = n := by omega
      exact ⟨rfl, rfl⟩

set_option maxHeartbeats 800000 in
theorem heldByteS_zero (ad : Option Addr) (cap : Nat) (k : Int) (w : World) :
    Calls Try.prog 35 #[.slice ad 0 cap, .int .i64 k] w fun e w' => e = .returned (.int .i64 k) ∧ w' = w := by
  go_enter Try.func35, Try.ntmps35
  go_wp2
  go_loopw [1, 5] (fun kk i wr => i = .int .i64 (0 : Nat) ∧ kk = .int .i64 k ∧ wr = w) (fun _ _ _ => 0)
  case atStart => exact ⟨rfl, rfl, rfl⟩
  case round =>
    obtain ⟨rfl, rfl, rfl⟩ := hrel
    go_wp2
    go_ret
    exact ⟨rfl, rfl⟩

theorem heldByteS_any {ad : Option Addr} {n : Nat} (cap : Nat) (k : Int) {w : World} (h : Reads w ad n (marks k n)) (hn : n ≤ 2097152) (hk0 : 0 ≤ k) (hk1 : k ≤ 1000000000) :
    Calls Try.prog 35 #[.slice ad n cap, .int .i64 k] w fun e w' => e = .returned (.int .i64 (k + n)) ∧ w' = w := by
  rcases h.cells with rfl | ⟨b, off, rfl, hc⟩
  · refine (heldByteS_zero ad cap k w).mono fun e w' ⟨he, hw⟩ => ⟨by rw [he]; simp, hw⟩
  · exact heldByteS_pos b off cap n k w hn hk0 hk1 fun i hi => by rw [hc i hi, marks_at k n i hi]
end Go.Proofs.Ytlapfmfaammheaa
/- Floats of 64 bits, by what they are worth: the number of least floats in each (its 'wval'), and what sums, differences, products and halves give where the result is exact. No statement of its own; no conditions. -/

namespace Go.Proofs.Ytlapfmfaammheaa
open Ieee

/-- How many of the least float a float is worth. -/
def wval (r : Nat) : Nat := if r < 2 ^ 52 then r else (2 ^ 52 + r % 2 ^ 52) * 2 ^ (r / 2 ^ 52 - 1)
/-- The float that is worth so many. -/
def rg (v : Nat) : Nat := (v.log2 - 52) * 2 ^ 52 + v / 2 ^ (v.log2 - 52)

theorem log2_mul_pow (m k : Nat) (h : 0 < m) : (m * 2 ^ k).log2 = m.log2 + k := by
  have hm : m ≠ 0 := by omega
  have h1 := Nat.log2_self_le hm
  have h2 := Nat.lt_log2_self (n := m)
  have hp : 0 < 2 ^ k := Nat.two_pow_pos k
  refine (Nat.log2_eq_iff (Nat.mul_ne_zero hm (by omega))).2 ⟨?_, ?_⟩
  · rw [Nat.pow_add]; exact Nat.mul_le_mul_right _ h1
  · rw [show m.log2 + k + 1 = (m.log2 + 1) + k by omega, Nat.pow_add]; exact Nat.mul_lt_mul_of_pos_right h2 hp

theorem cut_even (s : Bool) (q d : Nat) : Toward.even.cut s (q * 2 ^ d) d = q := by
  have hp : 0 < 2 ^ d := Nat.two_pow_pos d
  by_cases hq : q = 0
  · subst hq
    have : 0 < 1 <<< min d 2 := by rw [Nat.one_shiftLeft]; exact Nat.two_pow_pos _
    simp only [Toward.cut, Nat.zero_mul, Nat.log2_zero, Nat.zero_add, Nat.zero_div, Nat.zero_mod, Nat.mul_zero]
    have h1 : ¬ (1 <<< min d 2 < 0) := by omega
    have h2 : ((1 <<< min d 2) == 0) = false := beq_eq_false_iff_ne.2 (by omega)
    simp [h2]
  · have hl := log2_mul_pow q d (by omega)
    have hm : min d ((q * 2 ^ d).log2 + 2) = d := by omega
    simp only [Toward.cut, hm, Nat.one_shiftLeft]
    rw [Nat.mul_div_cancel _ hp, Nat.mul_mod_left]
    have h2 : ((2 ^ d) == 2 * 0) = false := beq_eq_false_iff_ne.2 (by omega)
    simp [h2]

theorem cut_zero (s : Bool) (n d : Nat) : Toward.zero.cut s n d = n / 2 ^ d := by
  simp only [Toward.cut, Nat.one_shiftLeft, Bool.toNat_false, Nat.add_zero]
  by_cases h : d ≤ n.log2 + 2
  · rw [Nat.min_eq_left h]
  · have h1 : n < 2 ^ (n.log2 + 1) := Nat.lt_log2_self
    have h2 : 2 ^ (n.log2 + 1) ≤ 2 ^ (n.log2 + 2) := Nat.pow_le_pow_right (by omega) (by omega)
    have h3 : 2 ^ (n.log2 + 2) ≤ 2 ^ d := Nat.pow_le_pow_right (by omega) (by omega)
    rw [Nat.min_eq_right (by omega), Nat.div_eq_of_lt (by omega), Nat.div_eq_of_lt (by omega)]

theorem lp : double.leastPlace = -1074 := by decide
theorem fb : double.fractionBits = 52 := rfl
theorem bin : double.binade = 2 ^ 52 := rfl
theorem infR : double.infRung = 2047 * 2 ^ 52 := by decide
theorem sw : double.signWeight = 2 ^ 63 := rfl

theorem rg_zero : rg 0 = 0 := by decide

/-- A number that is worth v whole least floats, v of at most 53 digits and noughts, is just that float. -/
theorem nearest_rg (s : Bool) (m : Nat) (p : Int) (v : Nat) (h : m * 2 ^ (p + 1074).toNat = v * 2 ^ (-1074 - p).toNat) (hd : 2 ^ (v.log2 - 52) ∣ v) :
    double.nearest s m p = double.word s (min (rg v) (2047 * 2 ^ 52)) := by
  by_cases hm : m = 0
  · subst hm
    have hp : 0 < 2 ^ (-1074 - p).toNat := Nat.two_pow_pos _
    have hv : v = 0 := by
      rw [Nat.zero_mul] at h
      rcases Nat.mul_eq_zero.1 h.symm with h | h
      · exact h
      · omega
    subst hv
    rw [rg_zero]
    simp [Format.nearest]
  · have hv : 0 < v := by
      rcases Nat.eq_zero_or_pos v with rfl | h0
      · rw [Nat.zero_mul] at h
        rcases Nat.mul_eq_zero.1 h with h | h
        · exact absurd h hm
        · have := Nat.two_pow_pos (p + 1074).toNat; omega
      · exact h0
    have hl : m.log2 + (p + 1074).toNat = v.log2 + (-1074 - p).toNat := by
      rw [← log2_mul_pow m _ (by omega), ← log2_mul_pow v _ hv, h]
    obtain ⟨q, hq⟩ := hd
    have hrg : rg v = (v.log2 - 52) * 2 ^ 52 + q := by
      unfold rg
      have hp : 0 < 2 ^ (v.log2 - 52) := Nat.two_pow_pos _
      have : v / 2 ^ (v.log2 - 52) = q := by
        rw [Nat.div_eq_iff_eq_mul_left hp ⟨q, hq⟩, Nat.mul_comm]
        exact hq
      rw [this]
    have hK : max (p + (m.log2 : Int) - (52 : Nat)) (-1074) = ((v.log2 - 52 : Nat) : Int) - 1074 := by omega
    rw [hrg]
    have hkept : Toward.even.cut s (m <<< (p - (((v.log2 - 52 : Nat) : Int) - 1074)).toNat) ((((v.log2 - 52 : Nat) : Int) - 1074) - p).toNat = q := by
      clear hK hrg hl
      generalize v.log2 - 52 = K at hq
      rw [hq] at h
      by_cases ht : (K : Int) ≤ p + 1074
      · obtain ⟨t, ht'⟩ : ∃ t : Nat, p + 1074 = K + t := ⟨(p + 1074 - K).toNat, by omega⟩
        have e1 : (p - ((K : Int) - 1074)).toNat = t := by omega
        have e2 : (((K : Int) - 1074) - p).toNat = 0 := by omega
        have e3 : (p + 1074).toNat = K + t := by omega
        have e4 : (-1074 - p).toNat = 0 := by omega
        rw [e3, e4, Nat.pow_zero, Nat.mul_one, Nat.pow_add] at h
        rw [e1, e2, Nat.shiftLeft_eq]
        have hp : 0 < 2 ^ K := Nat.two_pow_pos _
        have : m * 2 ^ t = q := by
          apply Nat.eq_of_mul_eq_mul_left hp
          rw [← h, ← Nat.mul_assoc, Nat.mul_comm (2 ^ K) m, Nat.mul_assoc]
        rw [this]
        have := cut_even s q 0
        rwa [Nat.pow_zero, Nat.mul_one] at this
      · obtain ⟨t, ht'⟩ : ∃ t : Nat, (K : Int) = p + 1074 + t := ⟨(K - (p + 1074)).toNat, by omega⟩
        have e1 : (p - ((K : Int) - 1074)).toNat = 0 := by omega
        have e2 : (((K : Int) - 1074) - p).toNat = t := by omega
        rw [e1, e2, Nat.shiftLeft_eq, Nat.pow_zero, Nat.mul_one]
        have : m = q * 2 ^ t := by
          by_cases hA : 0 ≤ p + 1074
          · obtain ⟨A, hA'⟩ : ∃ A : Nat, p + 1074 = A := ⟨(p + 1074).toNat, by omega⟩
            have e3 : (p + 1074).toNat = A := by omega
            have e4 : (-1074 - p).toNat = 0 := by omega
            have e5 : K = A + t := by omega
            rw [e3, e4, Nat.pow_zero, Nat.mul_one, e5, Nat.pow_add] at h
            have hp : 0 < 2 ^ A := Nat.two_pow_pos _
            apply Nat.eq_of_mul_eq_mul_right hp
            rw [h, Nat.mul_comm q, Nat.mul_assoc, Nat.mul_assoc, Nat.mul_comm, Nat.mul_assoc]
          · obtain ⟨A, hA'⟩ : ∃ A : Nat, p + 1074 = -A := ⟨(-(p + 1074)).toNat, by omega⟩
            have e3 : (p + 1074).toNat = 0 := by omega
            have e4 : (-1074 - p).toNat = A := by omega
            have e5 : t = K + A := by omega
            rw [e3, e4, Nat.pow_zero, Nat.mul_one] at h
            rw [h, e5, Nat.pow_add, Nat.mul_comm (2 ^ K) q, Nat.mul_assoc]
        rw [this, cut_even]
    simp only [Format.nearest, hm, if_false, lp, fb, bin, infR]
    rw [hK, hkept]
    have e : ((((v.log2 - 52 : Nat) : Int) - 1074) - -1074).toNat = v.log2 - 52 := by omega
    rw [e]

/-- v is worth a float: it has at most 53 digits and noughts behind them, and isn't too great. -/
def Rep (v : Nat) : Prop := rg v < 2047 * 2 ^ 52 ∧ wval (rg v) = v ∧ 2 ^ (v.log2 - 52) ∣ v

theorem rep_of (c j : Nat) (hc : c < 2 ^ 53) (hv : j ≤ 2045) : Rep (c * 2 ^ j) := by
  by_cases h0 : c = 0
  · subst h0
    rw [Nat.zero_mul]
    refine ⟨by rw [rg_zero]; decide, by rw [rg_zero]; decide, ⟨0, by simp⟩⟩
  · have hl := log2_mul_pow c j (by omega)
    have hcl : c.log2 < 53 := (Nat.log2_lt h0).2 hc
    have hdvd : 2 ^ ((c * 2 ^ j).log2 - 52) ∣ c * 2 ^ j := Nat.dvd_trans (Nat.pow_dvd_pow 2 (by omega)) ⟨c, Nat.mul_comm _ _⟩
    have hpos : c * 2 ^ j ≠ 0 := Nat.mul_ne_zero h0 (by have := Nat.two_pow_pos j; omega)
    generalize c * 2 ^ j = v at *
    have hL := Nat.log2_self_le hpos
    have hU := Nat.lt_log2_self (n := v)
    have hLv : v.log2 < 2098 := by omega
    unfold Rep rg
    by_cases hs : v.log2 ≤ 52
    · have e : v.log2 - 52 = 0 := by omega
      rw [e] at hdvd ⊢
      rw [Nat.pow_zero, Nat.zero_mul, Nat.zero_add, Nat.div_one]
      have h53 : v < 2 ^ 53 := Nat.lt_of_lt_of_le hU (Nat.pow_le_pow_right (by omega) (by omega))
      refine ⟨by omega, ?_, ⟨v, by omega⟩⟩
      unfold wval
      split
      · rfl
      · have : v / 2 ^ 52 = 1 := by omega
        rw [this]
        omega
    · obtain ⟨K, hK⟩ : ∃ K, v.log2 = 52 + K := ⟨v.log2 - 52, by omega⟩
      have e : v.log2 - 52 = K := by omega
      rw [e] at hdvd ⊢
      rw [hK] at hL hU
      obtain ⟨q, rfl⟩ := hdvd
      have hp : 0 < 2 ^ K := Nat.two_pow_pos _
      rw [Nat.mul_div_cancel_left _ hp]
      have hq1 : 2 ^ 52 ≤ q := by
        rw [Nat.pow_add, Nat.mul_comm] at hL
        exact Nat.le_of_mul_le_mul_left hL hp
      have hq2 : q < 2 ^ 53 := by
        rw [show 52 + K + 1 = K + 53 by omega, Nat.pow_add] at hU
        exact Nat.lt_of_mul_lt_mul_left hU
      have hKl : K ≤ 2045 := by omega
      refine ⟨by omega, ?_, ⟨q, rfl⟩⟩
      unfold wval
      have h1 : ¬ (K * 2 ^ 52 + q < 2 ^ 52) := by omega
      have h2 : (K * 2 ^ 52 + q) / 2 ^ 52 = K + 1 := by omega
      have h3 : (K * 2 ^ 52 + q) % 2 ^ 52 = q - 2 ^ 52 := by omega
      have h4 : 2 ^ 52 + (q - 2 ^ 52) = q := by omega
      rw [if_neg h1, h2, h3, h4, Nat.add_sub_cancel, Nat.mul_comm]

theorem wval_lt (a b : Nat) (h : a < b) : wval a < wval b := by
  unfold wval
  by_cases hb : b < 2 ^ 52
  · rw [if_pos hb, if_pos (by omega)]
    exact h
  · rw [if_neg hb]
    have hm : a % 2 ^ 52 < 2 ^ 52 := Nat.mod_lt _ (by omega)
    by_cases ha : a < 2 ^ 52
    · rw [if_pos ha]
      have hp : 0 < 2 ^ (b / 2 ^ 52 - 1) := Nat.two_pow_pos _
      have : (2 ^ 52 + b % 2 ^ 52) * 1 ≤ (2 ^ 52 + b % 2 ^ 52) * 2 ^ (b / 2 ^ 52 - 1) := Nat.mul_le_mul_left _ hp
      omega
    · rw [if_neg ha]
      have hab : a / 2 ^ 52 ≤ b / 2 ^ 52 := Nat.div_le_div_right (by omega)
      by_cases he : a / 2 ^ 52 = b / 2 ^ 52
      · rw [he]
        exact Nat.mul_lt_mul_of_pos_right (by omega) (Nat.two_pow_pos _)
      · obtain ⟨t, ht⟩ : ∃ t, b / 2 ^ 52 - 1 = (a / 2 ^ 52 - 1) + 1 + t := ⟨b / 2 ^ 52 - 1 - (a / 2 ^ 52 - 1) - 1, by omega⟩
        rw [ht, Nat.pow_add, Nat.pow_succ (n := 2) (m := a / 2 ^ 52 - 1)]
        have hp : 0 < 2 ^ (a / 2 ^ 52 - 1) := Nat.two_pow_pos _
        have ht' : 0 < 2 ^ t := Nat.two_pow_pos _
        generalize 2 ^ (a / 2 ^ 52 - 1) = P at *
        calc (2 ^ 52 + a % 2 ^ 52) * P < (2 ^ 52 * 2) * P := Nat.mul_lt_mul_of_pos_right (by omega) hp
          _ = 2 ^ 52 * (P * 2) := by rw [Nat.mul_assoc, Nat.mul_comm 2 P]
          _ ≤ 2 ^ 52 * (P * 2 * 2 ^ t) := Nat.mul_le_mul_left _ (Nat.le_mul_of_pos_right _ ht')
          _ ≤ (2 ^ 52 + b % 2 ^ 52) * (P * 2 * 2 ^ t) := Nat.mul_le_mul_right _ (by omega)

theorem wval_inj (a b : Nat) (h : wval a = wval b) : a = b := by
  rcases Nat.lt_trichotomy a b with h' | h' | h'
  · have := wval_lt a b h'; omega
  · exact h'
  · have := wval_lt b a h'; omega

/-- A finite float as 53 digits and noughts. -/
theorem wval_form (r : Nat) (h : r < 2047 * 2 ^ 52) : ∃ c j, c < 2 ^ 53 ∧ wval r = c * 2 ^ j ∧ j ≤ 2045 := by
  unfold wval
  have hm : r % 2 ^ 52 < 2 ^ 52 := Nat.mod_lt _ (by omega)
  split
  · exact ⟨r, 0, by omega, by rw [Nat.pow_zero, Nat.mul_one], by omega⟩
  · exact ⟨_, _, by omega, rfl, by omega⟩

theorem rep_wval (r : Nat) (h : r < 2047 * 2 ^ 52) : Rep (wval r) := by
  obtain ⟨c, j, hc, he, hv⟩ := wval_form r h
  rw [he]
  exact rep_of c j hc hv

theorem rg_wval (r : Nat) (h : r < 2047 * 2 ^ 52) : rg (wval r) = r := wval_inj _ _ (rep_wval r h).2.1

/-- What a finite float is read as. -/
theorem read_word (s : Bool) (r : Nat) (h : r < 2047 * 2 ^ 52) : ∃ m : Nat, ∃ k : Nat, double.read (double.word s r) = .number s m ((k : Int) - 1074) ∧ m * 2 ^ k = wval r ∧ m < 2 ^ 53 := by
  have h63 : r < 2 ^ 63 := by omega
  have hs : (double.word s r / double.signWeight % 2 == 1) = s := by
    unfold Format.word
    rw [sw]
    cases s
    · rw [if_neg (by simp)]
      have : r / 2 ^ 63 = 0 := by omega
      rw [this]; rfl
    · rw [if_pos rfl]
      have : (2 ^ 63 + r) / 2 ^ 63 % 2 = 1 := by omega
      rw [this]; rfl
  have hr : double.word s r % double.signWeight = r := by
    unfold Format.word
    rw [sw]
    cases s
    · rw [if_neg (by simp)]; omega
    · rw [if_pos rfl]; omega
  simp only [Format.read, hs, hr, bin, infR, lp]
  have hm : r % 2 ^ 52 < 2 ^ 52 := Nat.mod_lt _ (by omega)
  by_cases h1 : r < 2 ^ 52
  · rw [if_pos h1]
    refine ⟨r, 0, rfl, ?_, by omega⟩
    rw [wval, if_pos h1, Nat.pow_zero, Nat.mul_one]
  · rw [if_neg h1, if_pos h]
    refine ⟨2 ^ 52 + r % 2 ^ 52, r / 2 ^ 52 - 1, ?_, ?_, ?_⟩
    · congr 1
    · rw [wval, if_neg h1]
    · omega

/-- A number that is just worth the float r is written as r. -/
theorem write_word (s : Bool) (m : Nat) (p : Int) (r : Nat) (hr : r < 2047 * 2 ^ 52) (h : m * 2 ^ (p + 1074).toNat = wval r * 2 ^ (-1074 - p).toNat) : double.write (.number s m p) = double.word s r := by
  have hR := rep_wval r hr
  have := nearest_rg s m p (wval r) h hR.2.2
  rw [rg_wval r hr, Nat.min_eq_left (by omega)] at this
  exact this

theorem shift (M V A B : Nat) (h : M * 2 ^ A = V * 2 ^ B) : M * 2 ^ ((A : Int) - B).toNat = V * 2 ^ ((B : Int) - A).toNat := by
  by_cases hAB : B ≤ A
  · obtain ⟨t, rfl⟩ : ∃ t, A = B + t := ⟨A - B, by omega⟩
    have e1 : (((B + t : Nat) : Int) - B).toNat = t := by omega
    have e2 : ((B : Int) - ((B + t : Nat) : Int)).toNat = 0 := by omega
    rw [e1, e2, Nat.pow_zero, Nat.mul_one]
    have hp : 0 < 2 ^ B := Nat.two_pow_pos _
    apply Nat.eq_of_mul_eq_mul_right hp
    rw [← h, Nat.pow_add, Nat.mul_assoc, Nat.mul_comm (2 ^ t)]
  · obtain ⟨t, rfl⟩ : ∃ t, B = A + t := ⟨B - A, by omega⟩
    have e1 : (((A + t : Nat) : Int) - A).toNat = t := by omega
    have e2 : ((A : Int) - ((A + t : Nat) : Int)).toNat = 0 := by omega
    rw [e1, e2, Nat.pow_zero, Nat.mul_one]
    have hp : 0 < 2 ^ A := Nat.two_pow_pos _
    apply Nat.eq_of_mul_eq_mul_right hp
    rw [h, Nat.pow_add, Nat.mul_assoc, Nat.mul_comm (2 ^ A)]

/-- The same, by two powers. -/
theorem write_by (s : Bool) (m : Nat) (p : Int) (r A B : Nat) (hr : r < 2047 * 2 ^ 52) (hp : p + 1074 = (A : Int) - B) (h : m * 2 ^ A = wval r * 2 ^ B) : double.write (.number s m p) = double.word s r := by
  refine write_word s m p r hr ?_
  rw [show (-1074 - p : Int) = (B : Int) - A by omega, hp]
  exact shift _ _ _ _ h

theorem mul_exact (s t : Bool) (a b c : Nat) (ha : a < 2047 * 2 ^ 52) (hb : b < 2047 * 2 ^ 52) (hc : c < 2047 * 2 ^ 52) (h : wval a * wval b = wval c * 2 ^ 1074) :
    double.mul (double.word s a) (double.word t b) = some (double.word (s ^^ t) c) := by
  obtain ⟨m, k, e1, v1, -⟩ := read_word s a ha
  obtain ⟨n, l, e2, v2, -⟩ := read_word t b hb
  rw [Format.mul, e1, e2]
  simp only [Datum.product, Option.map_some]
  rw [write_by (s ^^ t) _ _ c (k + l) 1074 hc (by omega)]
  rw [← h, ← v1, ← v2, Nat.pow_add, Nat.mul_assoc, Nat.mul_assoc, ← Nat.mul_assoc n, ← Nat.mul_assoc (2 ^ k), Nat.mul_comm (2 ^ k) n]

theorem shl_to (m k b : Nat) (h : b ≤ k) : m <<< (((k : Int) - 1074) - ((b : Int) - 1074)).toNat * 2 ^ b = m * 2 ^ k := by
  rw [show (((k : Int) - 1074) - ((b : Int) - 1074)).toNat = k - b by omega, Nat.shiftLeft_eq, Nat.mul_assoc, ← Nat.pow_add, Nat.sub_add_cancel h]

theorem min_place (k l : Nat) : min ((k : Int) - 1074) ((l : Int) - 1074) = ((min k l : Nat) : Int) - 1074 := by omega

theorem add_exact (a b c : Nat) (ha : a < 2047 * 2 ^ 52) (hb : b < 2047 * 2 ^ 52) (hc : c < 2047 * 2 ^ 52) (h : wval a + wval b = wval c) :
    double.add a b = some c := by
  obtain ⟨m, k, e1, v1, -⟩ := read_word false a ha
  obtain ⟨n, l, e2, v2, -⟩ := read_word false b hb
  have ea : double.word false a = a := rfl
  have eb : double.word false b = b := rfl
  have ec : double.word false c = c := rfl
  rw [ea] at e1
  rw [eb] at e2
  rw [Format.add, e1, e2]
  simp only [Datum.sum, Option.map_some, min_place, signed, Bool.false_eq_true, if_false, Bool.and_self]
  have h1 := shl_to m k (min k l) (Nat.min_le_left _ _)
  have h2 := shl_to n l (min k l) (Nat.min_le_right _ _)
  generalize m <<< (((k : Int) - 1074) - (((min k l : Nat) : Int) - 1074)).toNat = X at *
  generalize n <<< (((l : Int) - 1074) - (((min k l : Nat) : Int) - 1074)).toNat = Y at *
  have hs : (if (X : Int) + Y = 0 then false else decide ((X : Int) + Y < 0)) = false := by
    split
    · rfl
    · exact decide_eq_false (by omega)
  have hn : ((X : Int) + Y).natAbs = X + Y := by omega
  rw [hs, hn, write_by false _ _ c (min k l) 0 hc (by omega), ec]
  rw [Nat.pow_zero, Nat.mul_one, Nat.add_mul, h1, h2, ← h, v1, v2]

theorem sub_exact (a b c : Nat) (ha : a < 2047 * 2 ^ 52) (hb : b < 2047 * 2 ^ 52) (hc : c < 2047 * 2 ^ 52) (h : wval a = wval b + wval c) :
    double.sub a b = some c := by
  obtain ⟨m, k, e1, v1, -⟩ := read_word false a ha
  obtain ⟨n, l, e2, v2, -⟩ := read_word false b hb
  have ea : double.word false a = a := rfl
  have eb : double.word false b = b := rfl
  have ec : double.word false c = c := rfl
  rw [ea] at e1
  rw [eb] at e2
  rw [Format.sub, e1, e2]
  simp only [Datum.opposite, Datum.sum, Option.map_some, min_place, signed, Bool.false_eq_true, if_false, Bool.not_false, if_true, Bool.and_true]
  have h1 := shl_to m k (min k l) (Nat.min_le_left _ _)
  have h2 := shl_to n l (min k l) (Nat.min_le_right _ _)
  generalize m <<< (((k : Int) - 1074) - (((min k l : Nat) : Int) - 1074)).toNat = X at *
  generalize n <<< (((l : Int) - 1074) - (((min k l : Nat) : Int) - 1074)).toNat = Y at *
  have hp : 0 < 2 ^ min k l := Nat.two_pow_pos _
  have hXY : Y ≤ X := by
    apply Nat.le_of_mul_le_mul_right _ hp
    omega
  have hs : (if (X : Int) + -(Y : Int) = 0 then false else decide ((X : Int) + -(Y : Int) < 0)) = false := by
    split
    · rfl
    · exact decide_eq_false (by omega)
  have hn : ((X : Int) + -(Y : Int)).natAbs = X - Y := by omega
  rw [hs, hn, write_by false _ _ c (min k l) 0 hc (by omega), ec]
  rw [Nat.pow_zero, Nat.mul_one, Nat.sub_mul, h1, h2]
  omega

theorem half_exact (s : Bool) (d a c q : Nat) (hd : double.read d = .number false (2 ^ 52) ((q : Int) - 52)) (ha : a < 2047 * 2 ^ 52) (hc : c < 2047 * 2 ^ 52) (h : wval a = wval c * 2 ^ q) :
    double.div (double.word s a) d = some (double.word s c) := by
  obtain ⟨m, k, e1, v1, hm⟩ := read_word s a ha
  have hl : m.log2 ≤ 52 := by
    by_cases h0 : m = 0
    · subst h0; decide
    · have := (Nat.log2_lt h0).2 hm
      omega
  have h52 : (2 ^ 52 : Nat).log2 = 52 := by decide
  have hn0 : ¬ ((2 : Nat) ^ 52 = 0) := by decide
  rw [Format.div, e1, hd]
  simp only [Datum.quotient, fb, hn0, if_false, h52, Option.map_some, Bool.xor_false]
  obtain ⟨t, ht⟩ : ∃ t, 52 + 2 + 52 - m.log2 = 52 + t := ⟨52 + 2 - m.log2, by omega⟩
  rw [ht]
  have hdiv : m <<< (52 + t) = (m * 2 ^ t) * 2 ^ 52 := by rw [Nat.shiftLeft_eq, Nat.pow_add, Nat.mul_comm (2 ^ 52), Nat.mul_assoc]
  rw [hdiv, Nat.mul_div_cancel _ (by decide), Nat.mul_mod_left]
  simp only [bne_self_eq_false, Bool.toNat_false, Nat.add_zero]
  rw [write_by s _ _ c k (q + t + 1) hc (by omega)]
  have e : 2 * (m * 2 ^ t) * 2 ^ k = (m * 2 ^ k) * 2 ^ t * 2 := by ac_rfl
  rw [e, v1, h, Nat.pow_succ, Nat.pow_add]
  ac_rfl

/-- Cut towards zero. -/
theorem toInt_exact (a : Nat) (ha : a < 2047 * 2 ^ 52) (n : Nat) (h : wval a = n * 2 ^ 1074) : (double.read a).toInt .zero = some (n : Int) := by
  obtain ⟨m, k, e1, v1, hm⟩ := read_word false a ha
  have ea : double.word false a = a := rfl
  rw [ea] at e1
  rw [e1]
  simp only [Datum.toInt, Datum.integral, signed, Bool.false_eq_true, if_false, Nat.shiftLeft_zero, cut_zero]
  rw [← v1] at h
  have := shift _ _ _ _ h
  rw [Nat.shiftLeft_eq]
  have e1 : (k : Int) - ((1074 : Nat) : Int) = (k : Int) - 1074 := rfl
  have e2 : ((1074 : Nat) : Int) - (k : Int) = -((k : Int) - 1074) := by omega
  rw [e1, e2] at this
  rw [this, Nat.mul_div_cancel _ (Nat.two_pow_pos _)]

/-- A word by its sign and its place. -/
theorem word_of (x : Nat) (h : x < 2 ^ 64) : ∃ s r, r < 2 ^ 63 ∧ x = double.word s r := by
  by_cases hx : x < 2 ^ 63
  · exact ⟨false, x, hx, rfl⟩
  · exact ⟨true, x - 2 ^ 63, by omega, by unfold Format.word; rw [sw, if_pos rfl]; omega⟩

theorem sign_of (s : Bool) (r : Nat) (h : r < 2 ^ 63) : (double.word s r / double.signWeight % 2 == 1) = s := by
  unfold Format.word
  rw [sw]
  cases s
  · rw [if_neg (by simp)]
    have : r / 2 ^ 63 = 0 := by omega
    rw [this]; rfl
  · rw [if_pos rfl]
    have : (2 ^ 63 + r) / 2 ^ 63 % 2 = 1 := by omega
    rw [this]; rfl
theorem place_of (s : Bool) (r : Nat) (h : r < 2 ^ 63) : double.word s r % double.signWeight = r := by
  unfold Format.word
  rw [sw]
  cases s
  · rw [if_neg (by simp)]; omega
  · rw [if_pos rfl]; omega
theorem read_inf (s : Bool) : double.read (double.word s (2047 * 2 ^ 52)) = .infinity s := by cases s <;> decide
theorem read_nan (s : Bool) (r : Nat) (h : 2047 * 2 ^ 52 < r) (h' : r < 2 ^ 63) : double.read (double.word s r) = .nan s (r - 2047 * 2 ^ 52) := by
  simp only [Format.read, sign_of s r h', place_of s r h', bin, infR]
  rw [if_neg (by omega), if_neg (by omega), if_neg (by omega)]

/-- Where a float stands among all. -/
def key (s : Bool) (r : Nat) : Int := if s then -(r : Int) else r
def sv (s : Bool) (r : Nat) : Int := if s then -(wval r : Int) else wval r

theorem wval_pos (a : Nat) (h : 0 < a) : 0 < wval a := by
  have := wval_lt 0 a h
  omega
theorem wval_zero : wval 0 = 0 := by decide

theorem sv_lt (s t : Bool) (a b : Nat) : sv s a < sv t b ↔ key s a < key t b := by
  have hz := wval_zero
  have h1 : a < b ↔ wval a < wval b := ⟨wval_lt a b, fun h => by
    rcases Nat.lt_trichotomy a b with h' | h' | h'
    · exact h'
    · subst h'; omega
    · have := wval_lt b a h'; omega⟩
  have h2 : b < a ↔ wval b < wval a := ⟨wval_lt b a, fun h => by
    rcases Nat.lt_trichotomy a b with h' | h' | h'
    · have := wval_lt a b h'; omega
    · subst h'; omega
    · exact h'⟩
  have h3 : 0 < a ↔ 0 < wval a := ⟨wval_pos a, fun h => by
    rcases Nat.eq_zero_or_pos a with rfl | h'
    · omega
    · exact h'⟩
  have h4 : 0 < b ↔ 0 < wval b := ⟨wval_pos b, fun h => by
    rcases Nat.eq_zero_or_pos b with rfl | h'
    · omega
    · exact h'⟩
  cases s <;> cases t <;> simp only [sv, key, if_true, Bool.false_eq_true, if_false] <;> omega

theorem cmp_eq (x y x' y' : Int) (h1 : x < y ↔ x' < y') (h2 : y < x ↔ y' < x') : compare x y = compare x' y' := by
  simp only [compare, compareOfLessAndEq]
  by_cases h : x < y
  · rw [if_pos h, if_pos (h1.1 h)]
  · rw [if_neg h, if_neg (fun h' => h (h1.2 h'))]
    by_cases e : x = y
    · rw [if_pos e, if_pos (by omega)]
    · rw [if_neg e, if_neg (by omega)]

theorem signed_mul (s : Bool) (m k b : Nat) (h : b ≤ k) : signed s m (((k : Int) - 1074) - ((b : Int) - 1074)).toNat * (2 ^ b : Nat) = if s then -((m * 2 ^ k : Nat) : Int) else ((m * 2 ^ k : Nat) : Int) := by
  have := shl_to m k b h
  unfold signed
  cases s
  · simp only [Bool.false_eq_true, if_false]
    rw [← Int.natCast_mul, this]
  · simp only [if_true]
    rw [Int.neg_mul, ← Int.natCast_mul, this]

theorem order_key (s t : Bool) (a b : Nat) (ha : a ≤ 2047 * 2 ^ 52) (hb : b ≤ 2047 * 2 ^ 52) : double.order (double.word s a) (double.word t b) = some (compare (key s a) (key t b)) := by
  unfold Format.order
  by_cases ha' : a = 2047 * 2 ^ 52
  · subst ha'
    rw [read_inf]
    by_cases hb' : b = 2047 * 2 ^ 52
    · subst hb'
      rw [read_inf]
      cases s <;> cases t <;> rfl
    · obtain ⟨n, l, e2, v2, -⟩ := read_word t b (by omega)
      rw [e2]
      simp only [Datum.order]
      congr 1
      cases s <;> cases t <;> simp only [key, if_true, Bool.false_eq_true, if_false, compare, compareOfLessAndEq] <;> (first | (rw [if_pos (by omega)]; done) | (rw [if_neg (by omega), if_neg (by omega)]))
  · obtain ⟨m, k, e1, v1, -⟩ := read_word s a (by omega)
    rw [e1]
    by_cases hb' : b = 2047 * 2 ^ 52
    · subst hb'
      rw [read_inf]
      simp only [Datum.order]
      congr 1
      cases s <;> cases t <;> simp only [key, if_true, Bool.false_eq_true, if_false, compare, compareOfLessAndEq] <;> (first | (rw [if_pos (by omega)]; done) | (rw [if_neg (by omega), if_neg (by omega)]))
    · obtain ⟨n, l, e2, v2, -⟩ := read_word t b (by omega)
      rw [e2]
      simp only [Datum.order, min_place]
      congr 1
      have h1 := signed_mul s m k (min k l) (Nat.min_le_left _ _)
      have h2 := signed_mul t n l (min k l) (Nat.min_le_right _ _)
      rw [v1] at h1
      rw [v2] at h2
      generalize signed s m (((k : Int) - 1074) - (((min k l : Nat) : Int) - 1074)).toNat = X at *
      generalize signed t n (((l : Int) - 1074) - (((min k l : Nat) : Int) - 1074)).toNat = Y at *
      have hp : (0 : Int) < ((2 ^ min k l : Nat) : Int) := Int.natCast_pos.2 (Nat.two_pow_pos _)
      generalize ((2 ^ min k l : Nat) : Int) = P at *
      have h1' : X * P = sv s a := h1
      have h2' : Y * P = sv t b := h2
      refine cmp_eq _ _ _ _ ?_ ?_
      · rw [← sv_lt, ← h1', ← h2']
        exact ⟨fun h => Int.mul_lt_mul_of_pos_right h hp, fun h => Int.lt_of_mul_lt_mul_right h (by omega)⟩
      · rw [← sv_lt, ← h1', ← h2']
        exact ⟨fun h => Int.mul_lt_mul_of_pos_right h hp, fun h => Int.lt_of_mul_lt_mul_right h (by omega)⟩

theorem order_nan_l (s : Bool) (r y : Nat) (h : 2047 * 2 ^ 52 < r) (h' : r < 2 ^ 63) : double.order (double.word s r) y = none := by
  unfold Format.order
  rw [read_nan s r h h']
  rfl
theorem order_nan_r (s : Bool) (r y : Nat) (h : 2047 * 2 ^ 52 < r) (h' : r < 2 ^ 63) : double.order y (double.word s r) = none := by
  unfold Format.order
  rw [read_nan s r h h']
  cases double.read y <;> rfl
end Go.Proofs.Ytlapfmfaammheaa
/- Floats of 64 bits, by their bits: which are NaN, how two stand to each other, their ranks. No statement of its own; no conditions. -/

namespace Go.Proofs.Ytlapfmfaammheaa
open Ieee

/-- Whether bits are a NaN's. -/
def isN (x : Nat) : Bool := decide (9218868437227405312 < x % 9223372036854775808)
/-- Where a float that is no NaN stands among all. -/
def kx (x : Nat) : Int := if x < 9223372036854775808 then (x : Int) else 9223372036854775808 - x
/-- Its bits, all NaNs being one. -/
def fbits (x : Nat) : Nat := if isN x then 9221120237041090560 else x
/-- Its rank. -/
def frank (x : Nat) : Nat := if isN x then 18446744073709551615 else if x % 9223372036854775808 = 0 then 9223372036854775808 else if x < 9223372036854775808 then x + 9223372036854775808 else 18446744073709551615 - x

theorem isN_iff (x : Nat) : isN x = true ↔ 9218868437227405312 < x % 9223372036854775808 := by simp [isN]
theorem isN_not (x : Nat) : isN x = false ↔ x % 9223372036854775808 ≤ 9218868437227405312 := by simp [isN]

theorem word_pos (r : Nat) : double.word false r = r := rfl
theorem word_neg (r : Nat) : double.word true r = 9223372036854775808 + r := by unfold Format.word; rw [sw, if_pos rfl]

/-- A float by its sign and place. -/
theorem split_x (x : Nat) (h : x < 18446744073709551616) : ∃ s r, r < 9223372036854775808 ∧ x = double.word s r ∧ x % 9223372036854775808 = r ∧ kx x = key s r := by
  by_cases hx : x < 9223372036854775808
  · exact ⟨false, x, hx, rfl, by omega, by rw [kx, if_pos hx]; rfl⟩
  · refine ⟨true, x - 9223372036854775808, by omega, by rw [word_neg]; omega, by omega, ?_⟩
    rw [kx, if_neg hx, key, if_pos rfl]
    omega

theorem order_x (x y : Nat) (hx : x < 18446744073709551616) (hy : y < 18446744073709551616) (nx : isN x = false) (ny : isN y = false) : FloatKind.f64.format.order x y = some (compare (kx x) (kx y)) := by
  rw [isN_not] at nx ny
  obtain ⟨s, a, -, rfl, ea, ka⟩ := split_x x hx
  obtain ⟨t, b, -, rfl, eb, kb⟩ := split_x y hy
  rw [ka, kb]
  exact order_key s t a b (by omega) (by omega)
theorem order_l (x y : Nat) (hx : x < 18446744073709551616) (nx : isN x = true) : FloatKind.f64.format.order x y = none := by
  rw [isN_iff] at nx
  obtain ⟨s, a, h, rfl, ea, -⟩ := split_x x hx
  exact order_nan_l s a y (by omega) (by omega)
theorem order_r (x y : Nat) (hy : y < 18446744073709551616) (ny : isN y = true) : FloatKind.f64.format.order x y = none := by
  rw [isN_iff] at ny
  obtain ⟨s, a, h, rfl, ea, -⟩ := split_x y hy
  exact order_nan_r s a x (by omega) (by omega)

theorem order_lt (x y : Nat) (hx : x < 18446744073709551616) (hy : y < 18446744073709551616) (nx : isN x = false) (ny : isN y = false) (h : kx x < kx y) : FloatKind.f64.format.order x y = some .lt := by
  rw [order_x x y hx hy nx ny]
  congr 1
  simp only [compare, compareOfLessAndEq]
  rw [if_pos h]
theorem order_eq (x y : Nat) (hx : x < 18446744073709551616) (hy : y < 18446744073709551616) (nx : isN x = false) (ny : isN y = false) (h : kx x = kx y) : FloatKind.f64.format.order x y = some .eq := by
  rw [order_x x y hx hy nx ny]
  congr 1
  simp only [compare, compareOfLessAndEq]
  rw [if_neg (by omega), if_pos h]
theorem order_gt (x y : Nat) (hx : x < 18446744073709551616) (hy : y < 18446744073709551616) (nx : isN x = false) (ny : isN y = false) (h : kx y < kx x) : FloatKind.f64.format.order x y = some .gt := by
  rw [order_x x y hx hy nx ny]
  congr 1
  simp only [compare, compareOfLessAndEq]
  rw [if_neg (by omega), if_neg (by omega)]

theorem fbits_lt (x : Nat) (h : x < 18446744073709551616) : fbits x < 18446744073709551616 := by
  unfold fbits; split <;> omega
theorem frank_lt (x : Nat) (h : x < 18446744073709551616) : frank x < 18446744073709551616 := by
  unfold frank
  split
  · omega
  · split
    · omega
    · split <;> omega
end Go.Proofs.Ytlapfmfaammheaa
/- What halves, doubles, sums and cuts of floats give, in the steps that the specification takes. No statement of its own; no conditions. -/

namespace Go.Proofs.Ytlapfmfaammheaa
open Ieee

/-- The float c times 2^j least floats. -/
def F (c j : Nat) : Nat := rg (c * 2 ^ j)

theorem F_wval (c j : Nat) (hc : c < 2 ^ 53) (hj : j ≤ 2045) : wval (F c j) = c * 2 ^ j := (rep_of c j hc hj).2.1
theorem F_lt (c j : Nat) (hc : c < 2 ^ 53) (hj : j ≤ 2045) : F c j < 2047 * 2 ^ 52 := (rep_of c j hc hj).1
theorem F_of (r c j : Nat) (h : r < 2047 * 2 ^ 52) (e : wval r = c * 2 ^ j) : r = F c j := by rw [F, ← e, rg_wval r h]

theorem wval_norm (t f : Nat) (hf : f < 2 ^ 52) : wval ((t + 1) * 2 ^ 52 + f) = (2 ^ 52 + f) * 2 ^ t := by
  unfold wval
  have h1 : ¬ ((t + 1) * 2 ^ 52 + f < 2 ^ 52) := by omega
  have h2 : ((t + 1) * 2 ^ 52 + f) / 2 ^ 52 = t + 1 := by omega
  have h3 : ((t + 1) * 2 ^ 52 + f) % 2 ^ 52 = f := by omega
  rw [if_neg h1, h2, h3, Nat.add_sub_cancel]
theorem F_norm (t f : Nat) (hf : f < 2 ^ 52) (ht : t ≤ 2045) : F (2 ^ 52 + f) t = (t + 1) * 2 ^ 52 + f := (F_of _ _ _ (by omega) (wval_norm t f hf)).symm
theorem F_sub (f : Nat) (hf : f < 2 ^ 52) : F f 0 = f := (F_of f f 0 (by omega) (by rw [wval, if_pos hf, Nat.pow_zero, Nat.mul_one])).symm

theorem two_read : double.read 4611686018427387904 = .number false (2 ^ 52) (((1 : Nat) : Int) - 52) := by decide
theorem p52_read : double.read 4841369599423283200 = .number false (2 ^ 52) (((52 : Nat) : Int) - 52) := by decide
theorem two_F : 4611686018427387904 = F (2 ^ 52) 1023 := (F_norm 1023 0 (by omega) (by omega)).symm
theorem one_F : 4607182418800017408 = F (2 ^ 52) 1022 := (F_norm 1022 0 (by omega) (by omega)).symm
theorem p52_F : 4841369599423283200 = F (2 ^ 52) 1074 := (F_norm 1074 0 (by omega) (by omega)).symm

theorem half_F (c j : Nat) (hc : c < 2 ^ 53) (hj : j + 1 ≤ 2045) : double.div (F c (j + 1)) 4611686018427387904 = some (F c j) := by
  refine half_exact false 4611686018427387904 (F c (j + 1)) (F c j) 1 two_read (F_lt _ _ hc hj) (F_lt _ _ hc (by omega)) ?_
  rw [F_wval _ _ hc hj, F_wval _ _ hc (by omega), Nat.pow_succ, Nat.pow_one, Nat.mul_assoc]
theorem cut_F (c j : Nat) (hc : c < 2 ^ 53) (hj : j + 52 ≤ 2045) : double.div (F c (j + 52)) 4841369599423283200 = some (F c j) := by
  refine half_exact false 4841369599423283200 (F c (j + 52)) (F c j) 52 p52_read (F_lt _ _ hc hj) (F_lt _ _ hc (by omega)) ?_
  rw [F_wval _ _ hc hj, F_wval _ _ hc (by omega), Nat.pow_add, Nat.mul_assoc]
theorem pw (c j a b k d : Nat) (h : j + a + b = k + d) : c * 2 ^ j * (2 ^ a * 2 ^ b) = c * 2 ^ k * 2 ^ d := by
  rw [← Nat.pow_add, Nat.mul_assoc, Nat.mul_assoc, ← Nat.pow_add, ← Nat.pow_add, ← Nat.add_assoc, h]
theorem both (f a p : Nat) : f * p + a * p = (a + f) * p := by rw [Nat.add_mul, Nat.add_comm]
theorem decode_eq (b : Nat) : FloatKind.f64.decode b = double.read b := rfl
theorem double_F (c j : Nat) (hc : c < 2 ^ 53) (hj : j + 1 ≤ 2045) : double.mul (F c j) 4611686018427387904 = some (F c (j + 1)) := by
  have := mul_exact false false (F c j) (F (2 ^ 52) 1023) (F c (j + 1)) (F_lt _ _ hc (by omega)) (F_lt _ _ (by omega) (by omega)) (F_lt _ _ hc hj) (by
    rw [F_wval _ _ hc hj, F_wval _ _ hc (by omega), F_wval _ _ (by omega) (by omega)]
    exact pw c j 52 1023 (j + 1) 1074 (by omega))
  rw [← two_F] at this
  exact this
theorem lift_F (c j : Nat) (hc : c < 2 ^ 53) (hj : j + 52 ≤ 2045) : double.mul (F c j) 4841369599423283200 = some (F c (j + 52)) := by
  have := mul_exact false false (F c j) (F (2 ^ 52) 1074) (F c (j + 52)) (F_lt _ _ hc (by omega)) (F_lt _ _ (by omega) (by omega)) (F_lt _ _ hc hj) (by
    rw [F_wval _ _ hc hj, F_wval _ _ hc (by omega), F_wval _ _ (by omega) (by omega)]
    exact pw c j 52 1074 (j + 52) 1074 (by omega))
  rw [← p52_F] at this
  exact this
theorem less_F (f : Nat) (hf : f < 2 ^ 52) : double.sub (F (2 ^ 52 + f) 1022) 4607182418800017408 = some (F f 1022) := by
  rw [one_F]
  refine sub_exact _ _ _ (F_lt _ _ (by omega) (by omega)) (F_lt _ _ (by omega) (by omega)) (F_lt _ _ (by omega) (by omega)) ?_
  rw [F_wval _ _ (by omega) (by omega), F_wval _ _ (by omega) (by omega), F_wval _ _ (by omega) (by omega), Nat.add_mul]
theorem more_F (f : Nat) (hf : f < 2 ^ 52) : double.add (F f 1022) 4607182418800017408 = some (F (2 ^ 52 + f) 1022) := by
  rw [one_F]
  refine add_exact _ _ _ (F_lt _ _ (by omega) (by omega)) (F_lt _ _ (by omega) (by omega)) (F_lt _ _ (by omega) (by omega)) ?_
  rw [F_wval _ _ (by omega) (by omega), F_wval _ _ (by omega) (by omega), F_wval _ _ (by omega) (by omega)]
  generalize (2 : Nat) ^ 1022 = P
  exact both f _ P
theorem int_of (x n : Nat) (h : (double.read x).toInt .zero = some (n : Int)) (hn : n < 18446744073709551616) : floatToIntVal .f64 x .u64 = some (n : Int) := by
  rw [← decode_eq] at h
  unfold floatToIntVal
  rw [h]
  have e1 : IntKind.u64.min = 0 := by decide
  have e2 : IntKind.u64.max = 18446744073709551615 := by decide
  simp only [e1, e2]
  rw [if_pos (by omega)]
theorem int_F (f : Nat) (hf : f < 2 ^ 52) : floatToIntVal .f64 (F f 1074) .u64 = some (f : Int) :=
  int_of _ _ (toInt_exact (F f 1074) (F_lt _ _ (by omega) (by omega)) f (F_wval _ _ (by omega) (by omega))) (by omega)
theorem of_F (f : Nat) (hf : f < 2 ^ 53) : floatOfInt .f64 (f : Int) = F f 1074 := by
  unfold floatOfInt FloatKind.nearest FloatKind.encode
  have hn : decide ((f : Int) < 0) = false := decide_eq_false (by omega)
  rw [hn, Int.natAbs_natCast]
  exact write_by false f 0 (F f 1074) 1074 0 (F_lt _ _ hf (by omega)) (by omega) (by rw [F_wval _ _ hf (by omega), Nat.pow_zero, Nat.mul_one])
end Go.Proofs.Ytlapfmfaammheaa
/- The contracts of the program's FloatBits, FloatOf, FloatRank, FloatUnrank and FloatCompare. For every argument. -/







namespace Go.Proofs.Ytlapfmfaammheaa
open Go.RowKit

theorem isNaN_walk (x : Nat) (hx : x < 18446744073709551616) (w : World) :
    Calls Try.prog 78 #[.float .f64 x] w fun e w' => e = .returned (.bool (isN x)) ∧ w' = w := by
  by_cases hn : isN x = true
  · have o := order_l x x hx hn
    go_enter Try.func78, Try.ntmps78
    go_wp2
    go_ret
    exact ⟨by rw [hn]; rfl, rfl⟩
  · have hn' : isN x = false := by simpa using hn
    have o := order_eq x x hx hx hn' hn' rfl
    go_enter Try.func78, Try.ntmps78
    go_wp2
    go_ret
    exact ⟨by rw [hn']; rfl, rfl⟩

theorem frombits_run (n : Int) (w : World) : (callFunc 100 #[.int .u64 n]).run Try.prog w = .ok (.value (.float .f64 n.toNat)) w := by
  rw [run_callFunc_extern (P := Try.prog) Try.func100 (by kernel_rfl) (by kernel_rfl) (by kernel_rfl) (e := Extern.MathFloatBits.float64frombits) (by kernel_rfl)]
  rfl
theorem bits_run (x : Nat) (w : World) : (callFunc 79 #[.float .f64 x]).run Try.prog w = .ok (.value (.int .u64 x)) w := by
  rw [run_callFunc_extern (P := Try.prog) Try.func79 (by kernel_rfl) (by kernel_rfl) (by kernel_rfl) (e := Extern.MathFloatBits.float64bits) (by kernel_rfl)]
  rfl

theorem impl_FloatBits (x : Nat) (hx : x < 18446744073709551616) (w : World) :
    Calls Try.prog 46 #[.float .f64 x] w fun e w' => e = .returned (.int .u64 (fbits x)) ∧ w' = w := by
  have hb := bits_run x
  by_cases hn : isN x = true
  · have ef : fbits x = 9221120237041090560 := by rw [fbits, if_pos hn]
    go_enter Try.func46, Try.ntmps46
    go_wp2_with fail
    refine (isNaN_walk x hx w).mono ?_
    rintro e w1 ⟨rfl, rfl⟩
    go_wp2_with fail
    go_ret
    exact ⟨by rw [ef]; rfl, rfl⟩
  · have hn' : isN x = false := by simpa using hn
    have ef : fbits x = x := by rw [fbits, if_neg hn]
    go_enter Try.func46, Try.ntmps46
    go_wp2_with fail
    refine (isNaN_walk x hx w).mono ?_
    rintro e w1 ⟨rfl, rfl⟩
    go_wp2_with fail
    go_ret
    exact ⟨by rw [ef]; rfl, rfl⟩

theorem impl_FloatOf (x : Nat) (w : World) :
    Calls Try.prog 83 #[.int .u64 x] w fun e w' => e = .returned (.float .f64 x) ∧ w' = w := by
  have hb := frombits_run (x : Int)
  go_enter Try.func83, Try.ntmps83
  go_wp2_with fail
  go_ret
  exact ⟨rfl, rfl⟩

theorem not64 (x : Nat) (h : x < 18446744073709551616) : bits .xor .u64 IntKind.u64.max (x : Int) = ((18446744073709551615 - x : Nat) : Int) := by
  have e : IntKind.u64.max = ((18446744073709551615 : Nat) : Int) := by decide
  rw [e, u64_xor_nat _ _ (by omega) h]
  congr 1
  have h1 : (BitVec.allOnes 64 ^^^ BitVec.ofNat 64 x).toNat = 18446744073709551615 ^^^ x := by
    rw [BitVec.toNat_xor, BitVec.toNat_allOnes, BitVec.toNat_ofNat, Nat.mod_eq_of_lt h]
  rw [← h1, BitVec.allOnes_xor, BitVec.toNat_not, BitVec.toNat_ofNat, Nat.mod_eq_of_lt h]

theorem kx_zero : kx 0 = 0 := rfl
theorem isN_zero : isN 0 = false := by decide

theorem impl_FloatRank (x : Nat) (hx : x < 18446744073709551616) (w : World) :
    Calls Try.prog 84 #[.float .f64 x] w fun e w' => e = .returned (.int .u64 (frank x)) ∧ w' = w := by
  by_cases hn : isN x = true
  · have ef : frank x = 18446744073709551615 := by rw [frank, if_pos hn]
    go_enter Try.func84, Try.ntmps84
    go_wp2_with fail
    refine (isNaN_walk x hx w).mono ?_
    rintro e w1 ⟨rfl, rfl⟩
    go_wp2_with fail
    go_ret
    exact ⟨by rw [ef]; rfl, rfl⟩
  · have hn' : isN x = false := by simpa using hn
    have hm := (isN_not x).1 hn'
    have eb : fbits x = x := by rw [fbits, if_neg hn]
    by_cases h0 : x % 9223372036854775808 = 0
    · have ef : frank x = 9223372036854775808 := by rw [frank, if_neg hn, if_pos h0]
      have o := order_eq x 0 hx (by omega) hn' isN_zero (by rw [kx_zero, kx]; split <;> omega)
      go_enter Try.func84, Try.ntmps84
      go_wp2_with fail
      refine (isNaN_walk x hx w).mono ?_
      rintro e w1 ⟨rfl, rfl⟩
      go_wp2_with fail
      go_ret
      exact ⟨by rw [ef]; rfl, rfl⟩
    · by_cases hs : x < 9223372036854775808
      · have ef := hid (show frank x = x + 9223372036854775808 by rw [frank, if_neg hn, if_neg h0, if_pos hs])
        have o := order_gt x 0 hx (by omega) hn' isN_zero (by rw [kx_zero, kx]; split <;> omega)
        go_enter Try.func84, Try.ntmps84
        go_wp2_with fail
        refine (isNaN_walk x hx w).mono ?_
        rintro e w1 ⟨rfl, rfl⟩
        go_wp2_with fail
        refine (impl_FloatBits x hx _).mono ?_
        rintro e w1 ⟨rfl, rfl⟩
        rw [eb]
        go_wp2_with fail
        go_ret
        exact ⟨by rw [ef.out]; rfl, rfl⟩
      · have ef := hid (show frank x = 18446744073709551615 - x by rw [frank, if_neg hn, if_neg h0, if_neg hs])
        have o := order_lt x 0 hx (by omega) hn' isN_zero (by rw [kx_zero, kx]; split <;> omega)
        have hnot := not64 x hx
        go_enter Try.func84, Try.ntmps84
        go_wp2_with fail
        refine (isNaN_walk x hx w).mono ?_
        rintro e w1 ⟨rfl, rfl⟩
        go_wp2_with fail
        refine (impl_FloatBits x hx _).mono ?_
        rintro e w1 ⟨rfl, rfl⟩
        rw [eb]
        go_wp2_with fail
        go_ret
        exact ⟨by rw [ef.out]; rfl, rfl⟩

/-- The bits that FloatUnrank turns to. -/
def back (k : Nat) : Nat := if 9223372036854775808 ≤ k then k - 9223372036854775808 else 18446744073709551615 - k
theorem back_lt (k : Nat) (h : k < 18446744073709551616) : back k < 18446744073709551616 := by unfold back; split <;> omega

theorem impl_FloatUnrank (k : Nat) (hk : k < 18446744073709551616) (w : World) :
    Calls Try.prog 50 #[.int .u64 k] w fun e w' => e = .returned (if frank (back k) = k then .tuple #[.float .f64 (back k), .bool true] else .tuple #[.float .f64 0, .bool false]) ∧ w' = w := by
  have hnot := not64 k hk
  have hbl := back_lt k hk
  have hfl := frank_lt (back k) hbl
  by_cases hge : 9223372036854775808 ≤ k
  · have eb : (k : Int) - 9223372036854775808 = (back k : Int) := by rw [back, if_pos hge]; omega
    have hge' : (9223372036854775808 : Int) ≤ k := by omega
    have hz : (k : Int) < 18446744073709551616 := by omega
    clear hnot hge
    generalize back k = b at *
    by_cases hf : frank b = k
    · have hne : ((frank b : Int) != (k : Int)) = false := by rw [hf]; simp
      rw [if_pos hf]
      clear hf hk
      generalize (k : Int) = z at *
      go_enter Try.func50, Try.ntmps50
      go_wp2_with fail
      refine (impl_FloatOf b _).mono ?_
      rintro e w1 ⟨rfl, rfl⟩
      go_wp2_with fail
      refine (impl_FloatRank b hbl _).mono ?_
      rintro e w1 ⟨rfl, rfl⟩
      go_wp2_with fail
      go_ret2
      exact ⟨rfl, rfl⟩
    · have hne : ((frank b : Int) != (k : Int)) = true := by simp; omega
      rw [if_neg hf]
      clear hf hk
      generalize (k : Int) = z at *
      go_enter Try.func50, Try.ntmps50
      go_wp2_with fail
      refine (impl_FloatOf b _).mono ?_
      rintro e w1 ⟨rfl, rfl⟩
      go_wp2_with fail
      refine (impl_FloatRank b hbl _).mono ?_
      rintro e w1 ⟨rfl, rfl⟩
      go_wp2_with fail
      go_ret2
      exact ⟨rfl, rfl⟩
  · have eb : 18446744073709551615 - k = back k := by rw [back, if_neg hge]
    rw [eb] at hnot
    have hge' : (k : Int) < 9223372036854775808 := by omega
    have hz0 : (0 : Int) ≤ k := by omega
    have hz : (k : Int) < 18446744073709551616 := by omega
    clear eb hge
    generalize back k = b at *
    by_cases hf : frank b = k
    · have hne : ((frank b : Int) != (k : Int)) = false := by rw [hf]; simp
      rw [if_pos hf]
      clear hf hk
      generalize (k : Int) = z at *
      go_enter Try.func50, Try.ntmps50
      go_wp2_with fail
      refine (impl_FloatOf b _).mono ?_
      rintro e w1 ⟨rfl, rfl⟩
      go_wp2_with fail
      refine (impl_FloatRank b hbl _).mono ?_
      rintro e w1 ⟨rfl, rfl⟩
      go_wp2_with fail
      go_ret2
      exact ⟨rfl, rfl⟩
    · have hne : ((frank b : Int) != (k : Int)) = true := by simp; omega
      rw [if_neg hf]
      clear hf hk
      generalize (k : Int) = z at *
      go_enter Try.func50, Try.ntmps50
      go_wp2_with fail
      refine (impl_FloatOf b _).mono ?_
      rintro e w1 ⟨rfl, rfl⟩
      go_wp2_with fail
      refine (impl_FloatRank b hbl _).mono ?_
      rintro e w1 ⟨rfl, rfl⟩
      go_wp2_with fail
      go_ret2
      exact ⟨rfl, rfl⟩

def cmp3 (x y : Nat) : Int := if x < y then -1 else if y < x then 1 else 0

theorem isNaN64 (x : Nat) (w : World) : Calls Try.prog 101 #[.int .u64 x] w fun e w' => e = .returned (.bool false) ∧ w' = w := by
  go_enter Try.func101, Try.ntmps101
  go_wp2
  go_ret
  exact ⟨rfl, rfl⟩

theorem cmp_walk (x y : Nat) (w : World) : Calls Try.prog 86 #[.int .u64 x, .int .u64 y] w fun e w' => e = .returned (.int .i64 (cmp3 x y)) ∧ w' = w := by
  rcases Nat.lt_trichotomy x y with h | h | h
  · have ec : cmp3 x y = -1 := by rw [cmp3, if_pos h]
    have h1 : (x : Int) < y := by omega
    go_enter Try.func86, Try.ntmps86
    go_wp2_with fail
    refine (isNaN64 x _).mono ?_
    rintro e w1 ⟨rfl, rfl⟩
    go_wp2_with fail
    refine (isNaN64 y _).mono ?_
    rintro e w1 ⟨rfl, rfl⟩
    go_wp2_with fail
    go_ret
    exact ⟨by rw [ec]; rfl, rfl⟩
  · have ec : cmp3 x y = 0 := by rw [cmp3, if_neg (by omega), if_neg (by omega)]
    subst h
    go_enter Try.func86, Try.ntmps86
    go_wp2_with fail
    refine (isNaN64 x _).mono ?_
    rintro e w1 ⟨rfl, rfl⟩
    go_wp2_with fail
    refine (isNaN64 x _).mono ?_
    rintro e w1 ⟨rfl, rfl⟩
    go_wp2_with fail
    go_ret
    exact ⟨by rw [ec]; rfl, rfl⟩
  · have ec : cmp3 x y = 1 := by rw [cmp3, if_neg (by omega), if_pos h]
    have h1 : (y : Int) < x := by omega
    go_enter Try.func86, Try.ntmps86
    go_wp2_with fail
    refine (isNaN64 x _).mono ?_
    rintro e w1 ⟨rfl, rfl⟩
    go_wp2_with fail
    refine (isNaN64 y _).mono ?_
    rintro e w1 ⟨rfl, rfl⟩
    go_wp2_with fail
    go_ret
    exact ⟨by rw [ec]; rfl, rfl⟩

theorem impl_FloatCompare (x y : Nat) (hx : x < 18446744073709551616) (hy : y < 18446744073709551616) (w : World) :
    Calls Try.prog 55 #[.float .f64 x, .float .f64 y] w fun e w' => e = .returned (.int .i64 (cmp3 (frank x) (frank y))) ∧ w' = w := by
  go_enter Try.func55, Try.ntmps55
  go_wp2_with fail
  refine (impl_FloatRank x hx _).mono ?_
  rintro e w1 ⟨rfl, rfl⟩
  go_wp2_with fail
  refine (impl_FloatRank y hy _).mono ?_
  rintro e w1 ⟨rfl, rfl⟩
  go_wp2_with fail
  refine (cmp_walk _ _ _).mono ?_
  rintro e w1 ⟨rfl, rfl⟩
  go_wp2_with fail
  go_ret
  exact ⟨rfl, rfl⟩
end Go.Proofs.Ytlapfmfaammheaa
/- The contract of the specification's FloatBits: it answers 'fbits', and leaves memory as it was. For every argument. -/


namespace Go.Proofs.Ytlapfmfaammheaa
open Go.RowKit Ieee

theorem kpos (a : Nat) (h : a ≤ 9218868437227405312) : a < 18446744073709551616 ∧ isN a = false ∧ kx a = a := by
  refine ⟨by omega, (isN_not a).2 (by omega), ?_⟩
  rw [kx, if_pos (by omega)]
theorem olt (a b : Nat) (ha : a ≤ 9218868437227405312) (hb : b ≤ 9218868437227405312) (h : a < b) : FloatKind.f64.format.order a b = some .lt :=
  order_lt a b (kpos a ha).1 (kpos b hb).1 (kpos a ha).2.1 (kpos b hb).2.1 (by rw [(kpos a ha).2.2, (kpos b hb).2.2]; omega)
theorem ogt (a b : Nat) (ha : a ≤ 9218868437227405312) (hb : b ≤ 9218868437227405312) (h : b < a) : FloatKind.f64.format.order a b = some .gt :=
  order_gt a b (kpos a ha).1 (kpos b hb).1 (kpos a ha).2.1 (kpos b hb).2.1 (by rw [(kpos a ha).2.2, (kpos b hb).2.2]; omega)
theorem oeq (a : Nat) (ha : a ≤ 9218868437227405312) : FloatKind.f64.format.order a a = some .eq :=
  order_eq a a (kpos a ha).1 (kpos a ha).1 (kpos a ha).2.1 (kpos a ha).2.1 rfl

theorem dval (r : Nat) (h : r < 9218868437227405312) (h1 : 4503599627370496 ≤ r) : ∃ t f, f < 2 ^ 52 ∧ t ≤ 2045 ∧ r = (t + 1) * 2 ^ 52 + f ∧ r = F (2 ^ 52 + f) t := by
  refine ⟨r / 4503599627370496 - 1, r % 4503599627370496, by omega, by omega, by omega, ?_⟩
  rw [F_norm _ _ (by omega) (by omega)]
  omega

theorem half_r (r : Nat) (h1 : 4611686018427387904 ≤ r) (h2 : r < 9218868437227405312) : floatBits .quo .f64 r 4611686018427387904 = some (r - 4503599627370496) := by
  obtain ⟨t, f, hf, ht, e1, e2⟩ := dval r h2 (by omega)
  obtain ⟨u, rfl⟩ : ∃ u, t = u + 1 := ⟨t - 1, by omega⟩
  have := half_F (2 ^ 52 + f) u (by omega) (by omega)
  rw [← e2, F_norm u f hf (by omega)] at this
  rw [show r - 4503599627370496 = (u + 1) * 2 ^ 52 + f by omega]
  exact this

theorem F_suc (c j : Nat) (hc : c < 2 ^ 53) (hj : j + 1 ≤ 2045) : wval (F c (j + 1)) = wval (F c j) * 2 := by
  rw [F_wval _ _ hc hj, F_wval _ _ hc (by omega), Nat.pow_succ, Nat.mul_assoc]
theorem two_F' : 4611686018427387904 = F (2 ^ 52) (1022 + 1) := (F_norm (1022 + 1) 0 (by omega) (by omega)).symm
theorem wval_le (a b : Nat) (h : wval a < wval b) : a < b := by
  rcases Nat.lt_or_ge a b with h' | h'
  · exact h'
  · rcases Nat.lt_or_eq_of_le h' with h'' | h''
    · have := wval_lt b a h''; omega
    · subst h''; omega

theorem dbl_r (r : Nat) (h : r < 4607182418800017408) : ∃ q, floatBits .mul .f64 r 4611686018427387904 = some q ∧ wval q = wval r * 2 ∧ q < 4611686018427387904 := by
  have main : ∃ c j, c < 2 ^ 53 ∧ j + 1 ≤ 2045 ∧ r = F c j := by
    by_cases h1 : 4503599627370496 ≤ r
    · obtain ⟨t, f, hf, ht, e1, e2⟩ := dval r (by omega) h1
      exact ⟨2 ^ 52 + f, t, by omega, by omega, e2⟩
    · exact ⟨r, 0, by omega, by omega, (F_sub r (by omega)).symm⟩
  obtain ⟨c, j, hc, hj, e⟩ := main
  have hm := double_F c j hc hj
  rw [← e] at hm
  have hv : wval (F c (j + 1)) = wval r * 2 := by
    rw [e, F_wval _ _ hc hj, F_wval _ _ hc (by omega), Nat.pow_succ, Nat.mul_assoc]
  refine ⟨_, hm, hv, ?_⟩
  apply wval_le
  rw [hv]
  have h1 : wval r < wval 4607182418800017408 := wval_lt _ _ h
  have h2 : wval 4611686018427387904 = wval 4607182418800017408 * 2 := by
    rw [two_F', one_F]
    exact F_suc _ _ (by omega) (by omega)
  omega

/-- The end of it, above 1. -/
theorem top_r (r k j q : Nat) (hq1 : 4607182418800017408 ≤ q) (hq2 : q < 4611686018427387904) (hj : j ≤ 1022)
    (h : (k = 0 ∧ wval q = wval r * 2 ^ j) ∨ (j = 0 ∧ r = q + k * 4503599627370496)) :
    ∃ f : Nat, f < 4503599627370496 ∧ r = (k + 1023 - j) * 4503599627370496 + f ∧ floatBits .sub .f64 q 4607182418800017408 = some (F f 1022) ∧ floatBits .mul .f64 (F f 1022) 4841369599423283200 = some (F f 1074) ∧ floatToIntVal .f64 (F f 1074) .u64 = some (f : Int) := by
  refine ⟨q - 4607182418800017408, by omega, ?_, ?_, lift_F _ 1022 (by omega) (by omega), int_F _ (by omega)⟩
  · rcases h with ⟨rfl, h⟩ | ⟨rfl, h⟩
    · obtain ⟨t, ht⟩ : ∃ t, 1023 - j = t + 1 := ⟨1022 - j, by omega⟩
      have e1 : wval q = (2 ^ 52 + (q - 4607182418800017408)) * 2 ^ 1022 := by
        have e0 := wval_norm 1022 (q - 4607182418800017408) (by omega)
        rwa [show (1022 + 1) * 2 ^ 52 + (q - 4607182418800017408) = q by omega] at e0
      have e2 := wval_norm t (q - 4607182418800017408) (by omega)
      have e3 : (2 : Nat) ^ 1022 = 2 ^ t * 2 ^ j := by rw [show (1022 : Nat) = t + j by omega, Nat.pow_add]
      rw [e1, e3, ← Nat.mul_assoc, ← e2] at h
      have := wval_inj _ _ (Nat.eq_of_mul_eq_mul_right (Nat.two_pow_pos j) h)
      rw [← this]
      omega
    · omega
  · have hs := less_F (q - 4607182418800017408) (by omega)
    rw [F_norm _ _ (by omega) (by omega)] at hs
    rw [show (1022 + 1) * 2 ^ 52 + (q - 4607182418800017408) = q by omega] at hs
    exact hs

/-- The end of it, below 1. -/
theorem low_r (r q : Nat) (hq : q < 4607182418800017408) (h : wval q = wval r * 2 ^ 1022) :
    r < 4503599627370496 ∧ floatBits .mul .f64 q 4841369599423283200 = some (F r 1074) ∧ floatToIntVal .f64 (F r 1074) .u64 = some (r : Int) := by
  have h1 : wval q < wval 4607182418800017408 := wval_lt _ _ hq
  have h2 : wval 4607182418800017408 = wval 4503599627370496 * 2 ^ 1022 := by
    rw [one_F, F_wval _ _ (by omega) (by omega), show wval 4503599627370496 = 2 ^ 52 by decide]
  have hlt : r < 4503599627370496 := by
    apply wval_le
    rw [h, h2] at h1
    exact Nat.lt_of_mul_lt_mul_right h1
  have hv : wval r = r := by rw [wval, if_pos hlt]
  rw [hv] at h
  have e : q = F r 1022 := F_of q r 1022 (by omega) h
  refine ⟨hlt, ?_, int_F r hlt⟩
  rw [e]
  exact lift_F r 1022 (by omega) (by omega)
end Go.Proofs.Ytlapfmfaammheaa
/- The contract of the specification's FloatBits: it answers 'fbits', and leaves memory as it was. For every argument. -/

namespace Go.Proofs.Ytlapfmfaammheaa
open Go.RowKit Ieee

/-- The bits in a float's cell. -/
def fl : Value → Nat
  | .float _ b => b
  | _ => 0

theorem or_pos (x : Nat) (h : x < 9223372036854775808) : bits .or .u64 0 (x : Int) = ((x : Nat) : Int) := by
  have := u64_or_nat 0 x (by omega) (by omega)
  rw [Nat.zero_or] at this
  exact this
theorem or_neg (x : Nat) (h : x < 9223372036854775808) : bits .or .u64 9223372036854775808 (x : Int) = ((9223372036854775808 + x : Nat) : Int) := by
  have := u64_or_nat 9223372036854775808 x (by omega) (by omega)
  rw [nat_join 63 _ _ (by decide) (by omega)] at this
  exact this
theorem or_low (s e f : Nat) (hs : s = 0 ∨ s = 9223372036854775808) (he : e < 2048) (hf : f < 4503599627370496) : bits .or .u64 ((s + e * 4503599627370496 : Nat) : Int) (f : Int) = ((s + (e * 4503599627370496 + f) : Nat) : Int) := by
  rw [u64_or_nat _ _ (by omega) (by omega), nat_join 52 _ _ (by omega) (by omega), Nat.add_assoc]

theorem top_pos (r k j f : Nat) (hj : j ≤ 1022) (hk : k ≤ 1023) (hf : f < 4503599627370496) (e : r = (k + 1023 - j) * 4503599627370496 + f) :
    bits .or .u64 (bits .or .u64 0 (((k : Int) - j + 1023) * 4503599627370496)) (f : Int) = (r : Int) := by
  rw [show ((k : Int) - j + 1023) * 4503599627370496 = (((k + 1023 - j) * 4503599627370496 : Nat) : Int) by omega, or_pos _ (by omega)]
  have := or_low 0 (k + 1023 - j) f (.inl rfl) (by omega) hf
  rw [Nat.zero_add, Nat.zero_add, ← e] at this
  exact this
theorem top_neg (r k j f : Nat) (hj : j ≤ 1022) (hk : k ≤ 1023) (hf : f < 4503599627370496) (e : r = (k + 1023 - j) * 4503599627370496 + f) :
    bits .or .u64 (bits .or .u64 9223372036854775808 (((k : Int) - j + 1023) * 4503599627370496)) (f : Int) = ((9223372036854775808 + r : Nat) : Int) := by
  rw [show ((k : Int) - j + 1023) * 4503599627370496 = (((k + 1023 - j) * 4503599627370496 : Nat) : Int) by omega, or_neg _ (by omega)]
  rw [or_low 9223372036854775808 (k + 1023 - j) f (.inr rfl) (by omega) hf, ← e]

theorem neg_bits (r : Nat) (h : r < 9223372036854775808) : Op.negFloat .f64 (9223372036854775808 + r) = r := by
  unfold Op.negFloat
  rw [show 2 ^ (FloatKind.f64.format.exponentBits + FloatKind.f64.format.fractionBits) = 2 ^ 63 from rfl]
  have e : 9223372036854775808 + r = 2 ^ 63 ||| r := (nat_join 63 _ _ (by decide) (by omega)).symm
  rw [e]
  apply Nat.eq_of_testBit_eq
  intro i
  rw [Nat.testBit_xor, Nat.testBit_or, Nat.testBit_two_pow]
  by_cases hi : 63 = i
  · subst hi
    rw [Nat.testBit_lt_two_pow h]
    rfl
  · simp [hi]

theorem neg_run (x y : Nat) (h : Op.negFloat .f64 x = y) (w : World) : (Op.unary .neg (.float .f64 x)).run Try.prog w = .ok (.float .f64 y) w := by
  subst h
  rfl

set_option maxRecDepth 100000 in
set_option maxHeartbeats 1600000 in
theorem spec_FloatBits_pos (r : Nat) (h0 : 0 < r) (h1 : r < 9218868437227405312) (w : World) :
    Calls Try.prog 21 #[.float .f64 (r)] w fun e w' => e = .returned (.int .u64 ((r : Nat) : Int)) ∧ w' = w := by
  have o1 := oeq r (by omega)
  have o3 := ogt r 0 (by omega) (by omega) h0
  have o4 : FloatKind.f64.format.order r 9218868437227405311 = some .lt ∨ FloatKind.f64.format.order r 9218868437227405311 = some .eq := by
    by_cases h : r = 9218868437227405311
    · exact .inr (by rw [h]; exact oeq _ (by omega))
    · exact .inl (olt _ _ (by omega) (by omega) (by omega))
  have H0 := hid h0
  have H1 := hid h1
  clear h0 h1
  rcases o4 with o4 | o4
  all_goals
    go_enter Try.func21, Try.ntmps21
    go_wp2
    clear o1 o3 o4
    go_loopw [4, 5] (fun a e wr => ∃ q k : Nat, a = .float .f64 q ∧ e = .int .i64 k ∧ Hid (r = q + k * 4503599627370496) ∧ Hid (k = 0 ∨ 4607182418800017408 ≤ q) ∧ Hid (k ≤ 1023) ∧ wr = w) (fun a _ _ => fl a)
    case atStart => exact ⟨r, 0, rfl, rfl, hid (by omega), hid (.inl rfl), hid (by omega), rfl⟩
    case round =>
      obtain ⟨q, k, rfl, rfl, P1, P2, P3, rfl⟩ := hrel
      have hq : q < 9218868437227405312 := by have := P1.out; have := H1.out; omega
      by_cases hge : 4611686018427387904 ≤ q
      · obtain ⟨p, hp, ep⟩ : ∃ p, floatBits .quo .f64 q 4611686018427387904 = some p ∧ Hid (q = p + 4503599627370496) := ⟨_, half_r q hge hq, hid (by omega)⟩
        have hd := fun t w => run_float_arith (P := Try.prog) w .quo t .f64 q 4611686018427387904 _ hp
        have oo : FloatKind.f64.format.order q 4611686018427387904 = some .gt ∨ FloatKind.f64.format.order q 4611686018427387904 = some .eq := by
          by_cases h : q = 4611686018427387904
          · exact .inr (by rw [h]; exact oeq _ (by omega))
          · exact .inl (ogt _ _ (by omega) (by omega) (by omega))
        have Q1 := hid hge
        have Q2 := hid hq
        have hk : (k : Int) ≤ 1023 := by have := P3.out; omega
        clear hge hq hp
        rcases oo with oo | oo
        all_goals
          go_wp2
          go_roundw
          case rel => exact ⟨p, k + 1, rfl, by go_num, hid (by have := P1.out; have := ep.out; omega), hid (.inr (by have := Q1.out; have := ep.out; omega)), hid (by have := P1.out; have := P3.out; have := Q1.out; have := H1.out; omega), by first | trivial | rfl⟩
          case measure => have := ep.out; simp only [fl]; omega
      · have oo := olt q 4611686018427387904 (by omega) (by omega) (by omega)
        have Q1 := hid hge
        have Q2 := hid hq
        have hk : (k : Int) ≤ 1023 := by have := P3.out; omega
        clear hge hq
        go_wp2
        clear oo
        go_loopw [4, 5] (fun a e wr' => ∃ p j : Nat, a = .float .f64 p ∧ e = .int .i64 ((k : Int) - j) ∧ Hid ((k = 0 ∧ wval p = wval q * 2 ^ j) ∨ (j = 0 ∧ p = q ∧ 4607182418800017408 ≤ q)) ∧ Hid (p < 4611686018427387904) ∧ Hid (j ≤ 1022) ∧ wr' = wr) (fun _ e _ => (intOf e + 1022).toNat)
        case atStart => exact ⟨q, 0, rfl, by go_num, hid (by
          rcases P2.out with h | h
          · exact .inl ⟨h, by rw [Nat.pow_zero, Nat.mul_one]⟩
          · exact .inr ⟨rfl, rfl, h⟩), hid (by have := Q1.out; omega), hid (by omega), rfl⟩
        case round =>
          obtain ⟨p, j, rfl, rfl, R1, R2, R3, rfl⟩ := hrel
          have hj : (j : Int) ≤ 1022 := by have := R3.out; omega
          by_cases hlt : p < 4607182418800017408
          · have R1' : Hid (k = 0 ∧ wval p = wval q * 2 ^ j) := by
              rcases R1.out with h | h
              · exact h
              · exact absurd h.2.2 (by have := h.2.1; omega)
            have ol := olt p 4607182418800017408 (by omega) (by omega) hlt
            have hk0 : (k : Int) = 0 := by have := R1'.out.1; omega
            by_cases h22 : j = 1022
            · obtain ⟨a1, a2, a3⟩ := low_r q p hlt (by have := R1'.out.2; rw [h22] at this; exact this)
              have hm := fun t w => run_float_arith (P := Try.prog) w .mul t .f64 p 4841369599423283200 _ a2
              have hc := fun w => run_convert_float_int (P := Try.prog) w 24 37 .f64 .u64 _ (q : Int) (by rw [Try.underlying24]; rfl) Try.underlying37 a3
              have hor := or_pos q (by omega)
              have ht : ¬ (-1022 : Int) < (k : Int) - j := by omega
              have A1 := hid (show r = q by have := P1.out; have := R1'.out.1; subst this; omega)
              generalize F q 1074 = y at *
              clear a1 a2 a3 hlt h22 hk0
              go_wp2
              go_ret
              exact ⟨by rw [A1.out]; rfl, rfl⟩
            · obtain ⟨p', b1, b2, b3⟩ := dbl_r p hlt
              have hm := fun t w => run_float_arith (P := Try.prog) w .mul t .f64 p 4611686018427387904 _ b1
              have ht : (-1022 : Int) < (k : Int) - j := by omega
              have B2 := hid b2
              have B3 := hid b3
              have H22 := hid h22
              clear b1 b2 b3 hlt h22 hk0
              go_wp2
              go_roundw
              case rel => exact ⟨p', j + 1, rfl, by go_num, hid (.inl ⟨R1'.out.1, by rw [B2.out, R1'.out.2, Nat.pow_succ, Nat.mul_assoc]⟩), B3, hid (by have := R3.out; have := H22.out; omega), by first | trivial | rfl⟩
              case measure => simp [intOf]; omega
          · obtain ⟨f, c1, c2, c3, c4, c5⟩ := top_r r k j p (by omega) R2.out R3.out (by
              rcases R1.out with h | h
              · refine .inl ⟨h.1, ?_⟩
                have := P1.out
                rw [h.1, Nat.zero_mul, Nat.add_zero] at this
                rw [this]
                exact h.2
              · exact .inr ⟨h.1, by rw [h.2.1]; exact P1.out⟩)
            have oo : FloatKind.f64.format.order p 4607182418800017408 = some .gt ∨ FloatKind.f64.format.order p 4607182418800017408 = some .eq := by
              have := R2.out
              by_cases h : p = 4607182418800017408
              · exact .inr (by rw [h]; exact oeq _ (by omega))
              · exact .inl (ogt _ _ (by omega) (by omega) (by omega))
            have hs := fun t w => run_float_arith (P := Try.prog) w .sub t .f64 p 4607182418800017408 _ c3
            have hm := fun t w => run_float_arith (P := Try.prog) w .mul t .f64 _ 4841369599423283200 _ c4
            have hc := fun w => run_convert_float_int (P := Try.prog) w 24 37 .f64 .u64 _ (f : Int) (by rw [Try.underlying24]; rfl) Try.underlying37 c5
            have hk0 : (0 : Int) ≤ (k : Int) := by omega
            have hj0 : (0 : Int) ≤ (j : Int) := by omega
            have C1 := hid c1
            have C2 := hid c2
            generalize F f 1022 = y at *
            generalize F f 1074 = y' at *
            clear c1 c2 c3 c4 c5 hlt
            rcases oo with oo | oo
            all_goals
              go_wp2
              go_ret
              exact ⟨by rw [← top_pos r k j f R3.out P3.out C1.out C2.out]; rfl, rfl⟩

set_option maxRecDepth 100000 in
set_option maxHeartbeats 1600000 in
theorem spec_FloatBits_neg (r : Nat) (h0 : 0 < r) (h1 : r < 9218868437227405312) (w : World) :
    Calls Try.prog 21 #[.float .f64 (9223372036854775808 + r)] w fun e w' => e = .returned (.int .u64 ((9223372036854775808 + r : Nat) : Int)) ∧ w' = w := by
  have o1 : FloatKind.f64.format.order (9223372036854775808 + r) (9223372036854775808 + r) = some .eq := order_eq _ _ (by omega) (by omega) ((isN_not _).2 (by omega)) ((isN_not _).2 (by omega)) rfl
  have o2 : FloatKind.f64.format.order (9223372036854775808 + r) 0 = some .lt := order_lt _ _ (by omega) (by omega) ((isN_not _).2 (by omega)) isN_zero (by rw [kx_zero, kx, if_neg (by omega)]; omega)
  have on := neg_run (9223372036854775808 + r) r (neg_bits r (by omega))
  have o3 := ogt r 0 (by omega) (by omega) h0
  have o4 : FloatKind.f64.format.order r 9218868437227405311 = some .lt ∨ FloatKind.f64.format.order r 9218868437227405311 = some .eq := by
    by_cases h : r = 9218868437227405311
    · exact .inr (by rw [h]; exact oeq _ (by omega))
    · exact .inl (olt _ _ (by omega) (by omega) (by omega))
  have H0 := hid h0
  have H1 := hid h1
  clear h0 h1
  rcases o4 with o4 | o4
  all_goals
    go_enter Try.func21, Try.ntmps21
    go_wp2
    clear o1 o2 o3 o4 on
    go_loopw [4, 5] (fun a e wr => ∃ q k : Nat, a = .float .f64 q ∧ e = .int .i64 k ∧ Hid (r = q + k * 4503599627370496) ∧ Hid (k = 0 ∨ 4607182418800017408 ≤ q) ∧ Hid (k ≤ 1023) ∧ wr = w) (fun a _ _ => fl a)
    case atStart => exact ⟨r, 0, rfl, rfl, hid (by omega), hid (.inl rfl), hid (by omega), rfl⟩
    case round =>
      obtain ⟨q, k, rfl, rfl, P1, P2, P3, rfl⟩ := hrel
      have hq : q < 9218868437227405312 := by have := P1.out; have := H1.out; omega
      by_cases hge : 4611686018427387904 ≤ q
      · obtain ⟨p, hp, ep⟩ : ∃ p, floatBits .quo .f64 q 4611686018427387904 = some p ∧ Hid (q = p + 4503599627370496) := ⟨_, half_r q hge hq, hid (by omega)⟩
        have hd := fun t w => run_float_arith (P := Try.prog) w .quo t .f64 q 4611686018427387904 _ hp
        have oo : FloatKind.f64.format.order q 4611686018427387904 = some .gt ∨ FloatKind.f64.format.order q 4611686018427387904 = some .eq := by
          by_cases h : q = 4611686018427387904
          · exact .inr (by rw [h]; exact oeq _ (by omega))
          · exact .inl (ogt _ _ (by omega) (by omega) (by omega))
        have Q1 := hid hge
        have Q2 := hid hq
        have hk : (k : Int) ≤ 1023 := by have := P3.out; omega
        clear hge hq hp
        rcases oo with oo | oo
        all_goals
          go_wp2
          go_roundw
          case rel => exact ⟨p, k + 1, rfl, by go_num, hid (by have := P1.out; have := ep.out; omega), hid (.inr (by have := Q1.out; have := ep.out; omega)), hid (by have := P1.out; have := P3.out; have := Q1.out; have := H1.out; omega), by first | trivial | rfl⟩
          case measure => have := ep.out; simp only [fl]; omega
      · have oo := olt q 4611686018427387904 (by omega) (by omega) (by omega)
        have Q1 := hid hge
        have Q2 := hid hq
        have hk : (k : Int) ≤ 1023 := by have := P3.out; omega
        clear hge hq
        go_wp2
        clear oo
        go_loopw [4, 5] (fun a e wr' => ∃ p j : Nat, a = .float .f64 p ∧ e = .int .i64 ((k : Int) - j) ∧ Hid ((k = 0 ∧ wval p = wval q * 2 ^ j) ∨ (j = 0 ∧ p = q ∧ 4607182418800017408 ≤ q)) ∧ Hid (p < 4611686018427387904) ∧ Hid (j ≤ 1022) ∧ wr' = wr) (fun _ e _ => (intOf e + 1022).toNat)
        case atStart => exact ⟨q, 0, rfl, by go_num, hid (by
          rcases P2.out with h | h
          · exact .inl ⟨h, by rw [Nat.pow_zero, Nat.mul_one]⟩
          · exact .inr ⟨rfl, rfl, h⟩), hid (by have := Q1.out; omega), hid (by omega), rfl⟩
        case round =>
          obtain ⟨p, j, rfl, rfl, R1, R2, R3, rfl⟩ := hrel
          have hj : (j : Int) ≤ 1022 := by have := R3.out; omega
          by_cases hlt : p < 4607182418800017408
          · have R1' : Hid (k = 0 ∧ wval p = wval q * 2 ^ j) := by
              rcases R1.out with h | h
              · exact h
              · exact absurd h.2.2 (by have := h.2.1; omega)
            have ol := olt p 4607182418800017408 (by omega) (by omega) hlt
            have hk0 : (k : Int) = 0 := by have := R1'.out.1; omega
            by_cases h22 : j = 1022
            · obtain ⟨a1, a2, a3⟩ := low_r q p hlt (by have := R1'.out.2; rw [h22] at this; exact this)
              have hm := fun t w => run_float_arith (P := Try.prog) w .mul t .f64 p 4841369599423283200 _ a2
              have hc := fun w => run_convert_float_int (P := Try.prog) w 24 37 .f64 .u64 _ (q : Int) (by rw [Try.underlying24]; rfl) Try.underlying37 a3
              have hor := or_neg q (by omega)
              have ht : ¬ (-1022 : Int) < (k : Int) - j := by omega
              have A1 := hid (show r = q by have := P1.out; have := R1'.out.1; subst this; omega)
              generalize F q 1074 = y at *
              clear a1 a2 a3 hlt h22 hk0
              go_wp2
              go_ret
              exact ⟨by rw [A1.out]; rfl, rfl⟩
            · obtain ⟨p', b1, b2, b3⟩ := dbl_r p hlt
              have hm := fun t w => run_float_arith (P := Try.prog) w .mul t .f64 p 4611686018427387904 _ b1
              have ht : (-1022 : Int) < (k : Int) - j := by omega
              have B2 := hid b2
              have B3 := hid b3
              have H22 := hid h22
              clear b1 b2 b3 hlt h22 hk0
              go_wp2
              go_roundw
              case rel => exact ⟨p', j + 1, rfl, by go_num, hid (.inl ⟨R1'.out.1, by rw [B2.out, R1'.out.2, Nat.pow_succ, Nat.mul_assoc]⟩), B3, hid (by have := R3.out; have := H22.out; omega), by first | trivial | rfl⟩
              case measure => simp [intOf]; omega
          · obtain ⟨f, c1, c2, c3, c4, c5⟩ := top_r r k j p (by omega) R2.out R3.out (by
              rcases R1.out with h | h
              · refine .inl ⟨h.1, ?_⟩
                have := P1.out
                rw [h.1, Nat.zero_mul, Nat.add_zero] at this
                rw [this]
                exact h.2
              · exact .inr ⟨h.1, by rw [h.2.1]; exact P1.out⟩)
            have oo : FloatKind.f64.format.order p 4607182418800017408 = some .gt ∨ FloatKind.f64.format.order p 4607182418800017408 = some .eq := by
              have := R2.out
              by_cases h : p = 4607182418800017408
              · exact .inr (by rw [h]; exact oeq _ (by omega))
              · exact .inl (ogt _ _ (by omega) (by omega) (by omega))
            have hs := fun t w => run_float_arith (P := Try.prog) w .sub t .f64 p 4607182418800017408 _ c3
            have hm := fun t w => run_float_arith (P := Try.prog) w .mul t .f64 _ 4841369599423283200 _ c4
            have hc := fun w => run_convert_float_int (P := Try.prog) w 24 37 .f64 .u64 _ (f : Int) (by rw [Try.underlying24]; rfl) Try.underlying37 c5
            have hk0 : (0 : Int) ≤ (k : Int) := by omega
            have hj0 : (0 : Int) ≤ (j : Int) := by omega
            have C1 := hid c1
            have C2 := hid c2
            generalize F f 1022 = y at *
            generalize F f 1074 = y' at *
            clear c1 c2 c3 c4 c5 hlt
            rcases oo with oo | oo
            all_goals
              go_wp2
              go_ret
              exact ⟨by rw [← top_neg r k j f R3.out P3.out C1.out C2.out]; rfl, rfl⟩

/-- Both noughts, both infinities, NaN. -/
theorem spec_FloatBits_rest (x : Nat) (w : World) (hx : x = 0 ∨ x = 9223372036854775808 ∨ x = 9218868437227405312 ∨ x = 18442240474082181120) :
    Calls Try.prog 21 #[.float .f64 x] w fun e w' => e = .returned (.int .u64 (x : Int)) ∧ w' = w := by
  have d1 := fun t w => run_float_arith (P := Try.prog) w .quo t .f64 4607182418800017408 0 9218868437227405312 (by decide)
  have d2 := fun t w => run_float_arith (P := Try.prog) w .quo t .f64 4607182418800017408 9223372036854775808 18442240474082181120 (by decide)
  have o1 : FloatKind.f64.format.order 0 0 = some .eq := by decide
  have o2 : FloatKind.f64.format.order 9223372036854775808 0 = some .eq := by decide
  have o3 : FloatKind.f64.format.order 9218868437227405312 0 = some .gt := by decide
  have o4 : FloatKind.f64.format.order 18442240474082181120 0 = some .lt := by decide
  have o5 : FloatKind.f64.format.order 9223372036854775808 9223372036854775808 = some .eq := by decide
  have o6 : FloatKind.f64.format.order 9218868437227405312 9218868437227405312 = some .eq := by decide
  have o7 : FloatKind.f64.format.order 18442240474082181120 18442240474082181120 = some .eq := by decide
  have o8 : FloatKind.f64.format.order 9218868437227405312 9218868437227405311 = some .gt := by decide
  have n1 := neg_run 9223372036854775808 0 (by decide)
  have n2 := neg_run 18442240474082181120 9218868437227405312 (by decide)
  have b1 : bits .or .u64 0 9218868437227405312 = 9218868437227405312 := or_pos 9218868437227405312 (by omega)
  have b2 : bits .or .u64 9223372036854775808 9218868437227405312 = 18442240474082181120 := or_neg 9218868437227405312 (by omega)
  rcases hx with rfl | rfl | rfl | rfl
  all_goals
    go_enter Try.func21, Try.ntmps21
    go_wp2
    go_ret
    exact ⟨rfl, rfl⟩

theorem spec_FloatBits_nan (x : Nat) (hx : x < 18446744073709551616) (hn : isN x = true) (w : World) :
    Calls Try.prog 21 #[.float .f64 x] w fun e w' => e = .returned (.int .u64 9221120237041090560) ∧ w' = w := by
  have o := order_l x x hx hn
  clear hx hn
  go_enter Try.func21, Try.ntmps21
  go_wp2
  go_ret
  exact ⟨rfl, rfl⟩

theorem spec_FloatBits (x : Nat) (hx : x < 18446744073709551616) (w : World) :
    Calls Try.prog 21 #[.float .f64 x] w fun e w' => e = .returned (.int .u64 (fbits x : Int)) ∧ w' = w := by
  by_cases hn : isN x = true
  · rw [fbits, if_pos hn]
    exact spec_FloatBits_nan x hx hn w
  · have hn' : isN x = false := by simpa using hn
    rw [isN_not] at hn'
    rw [fbits, if_neg hn]
    by_cases h4 : x = 0 ∨ x = 9223372036854775808 ∨ x = 9218868437227405312 ∨ x = 18442240474082181120
    · exact spec_FloatBits_rest x w h4
    · by_cases hp : x < 9223372036854775808
      · exact spec_FloatBits_pos x (by omega) (by omega) w
      · obtain ⟨r, rfl⟩ : ∃ r, x = 9223372036854775808 + r := ⟨x - 9223372036854775808, by omega⟩
        exact spec_FloatBits_neg r (by omega) (by omega) w
end Go.Proofs.Ytlapfmfaammheaa
/- The contract of the specification's FloatOf: the float with the bits, or some NaN where they are a NaN's; memory stays as it was. For every argument. -/


namespace Go.Proofs.Ytlapfmfaammheaa
open Go.RowKit Ieee

theorem neg_bits' (r : Nat) (h : r < 9223372036854775808) : Op.negFloat .f64 r = 9223372036854775808 + r := by
  unfold Op.negFloat
  rw [show 2 ^ (FloatKind.f64.format.exponentBits + FloatKind.f64.format.fractionBits) = 2 ^ 63 from rfl]
  have e : 9223372036854775808 + r = 2 ^ 63 ||| r := (nat_join 63 _ _ (by decide) (by omega)).symm
  rw [e]
  apply Nat.eq_of_testBit_eq
  intro i
  rw [Nat.testBit_xor, Nat.testBit_or, Nat.testBit_two_pow]
  by_cases hi : 63 = i
  · subst hi
    rw [Nat.testBit_lt_two_pow h]
    rfl
  · simp [hi]

/-- A NaN that an operation hands back. -/
theorem nan_run (op : BinOp) (t : TypeId) (x y : Nat) (ho : op = .add ∨ op = .sub ∨ op = .mul ∨ op = .quo) (h : floatBits op .f64 x y = none) (w : World) : ∃ n, (binOp op t (.float .f64 x) (.float .f64 y)).run Try.prog w = .ok (.float .f64 n) w.drew ∧ isN n = true ∧ n < 18446744073709551616 := by
  refine ⟨Question.cut (.nanBits .f64 x y) (w.tape w.drawn (.nanBits .f64 x y)), ?_, ?_, ?_⟩
  · unfold floatBits at h
    rcases ho with rfl | rfl | rfl | rfl <;> simp only at h <;> simp [binOp, Op.floatArith, h, choose, Sem.run, Question.forced]
  · rw [isN_iff]
    simp only [Question.cut]
    have hu := Nat.mod_lt (w.tape w.drawn (.nanBits .f64 x y) / 2) (show 0 < 2 ^ 52 - 1 by decide)
    generalize w.tape w.drawn (.nanBits .f64 x y) / 2 % (2 ^ 52 - 1) = u at *
    rcases Nat.mod_two_eq_zero_or_one (w.tape w.drawn (.nanBits .f64 x y)) with h | h <;> rw [h] <;> omega
  · simp only [Question.cut]
    have hu := Nat.mod_lt (w.tape w.drawn (.nanBits .f64 x y) / 2) (show 0 < 2 ^ 52 - 1 by decide)
    generalize w.tape w.drawn (.nanBits .f64 x y) / 2 % (2 ^ 52 - 1) = u at *
    rcases Nat.mod_two_eq_zero_or_one (w.tape w.drawn (.nanBits .f64 x y)) with h | h <;> rw [h] <;> omega
end Go.Proofs.Ytlapfmfaammheaa
/- The contract of the specification's FloatOf: the float with the bits, or some NaN where they are a NaN's; memory stays as it was. For every argument. -/

namespace Go.Proofs.Ytlapfmfaammheaa
open Go.RowKit Ieee

/-- The fields of 64 bits. -/
structure Fields (b e f : Nat) (s : Bool) : Prop where
  he : e < 2048
  hf : f < 4503599627370496
  hb : b = (if s then 9223372036854775808 else 0) + (e * 4503599627370496 + f)
  a1 : bits .and .u64 ((b : Int) / 4503599627370496) 2047 = (e : Int)
  a2 : bits .and .u64 (b : Int) 4503599627370495 = (f : Int)
  a3 : ((b : Int) / 9223372036854775808 == 1) = s

theorem fields (b : Nat) (h : b < 18446744073709551616) : ∃ e f s, Fields b e f s := by
  refine ⟨b / 4503599627370496 % 2048, b % 4503599627370496, decide (9223372036854775808 ≤ b), by omega, by omega, ?_, ?_, ?_, ?_⟩
  · by_cases hs : 9223372036854775808 ≤ b
    · rw [decide_eq_true hs, if_pos rfl]; omega
    · rw [decide_eq_false hs, if_neg (by simp)]; omega
  · have := u64_and_nat (b / 4503599627370496) 2047 (by omega) (by omega)
    rw [show (2047 : Nat) = 2 ^ 11 - 1 from rfl, Nat.and_two_pow_sub_one_eq_mod] at this
    exact this
  · have := u64_and_nat b 4503599627370495 (by omega) (by omega)
    rw [show (4503599627370495 : Nat) = 2 ^ 52 - 1 from rfl, Nat.and_two_pow_sub_one_eq_mod] at this
    exact this
  · by_cases hs : 9223372036854775808 ≤ b
    · rw [decide_eq_true hs]
      exact beq_iff_eq.2 (by omega)
    · rw [decide_eq_false hs]
      exact beq_eq_false_iff_ne.2 (by omega)

theorem ofint_run (f : Nat) (hf : f < 4503599627370496) (w : World) : (convert 37 24 (.int .u64 (f : Int))).run Try.prog w = .ok (.float .f64 (F f 1074)) w := by
  rw [run_convert_int_float w 37 24 .u64 .f64 (f : Int) (by rw [Try.underlying37]; rfl) Try.underlying24, of_F f (by omega)]

set_option maxHeartbeats 1600000 in
theorem spec_FloatOf_nan (b f : Nat) (s : Bool) (H : Fields b 2047 f s) (h0 : f ≠ 0) (w : World) :
    Calls Try.prog 96 #[.int .u64 b] w fun e w' => ∃ y : Nat, e = .returned (.float .f64 y) ∧ isN y = true ∧ y < 18446744073709551616 ∧ Still w w' := by
  have a1 := H.a1
  have a2 := H.a2
  have hof := ofint_run f H.hf
  have hd := fun t w => run_float_arith (P := Try.prog) w .quo t .f64 _ 4841369599423283200 _ (cut_F f 1022 (by have := H.hf; omega) (by omega))
  obtain ⟨n, hn, n1, n2⟩ := nan_run .quo 24 0 0 (by simp) (by decide) w
  have hne : ((f : Int) != 0) = true := by simp [h0]
  generalize F f 1074 = y1 at *
  generalize F f 1022 = y2 at *
  clear H h0
  go_enter Try.func96, Try.ntmps96
  go_wp2
  go_ret
  exact ⟨n, rfl, n1, n2, Still.drew w⟩

set_option maxHeartbeats 1600000 in
theorem spec_FloatOf_inf (b : Nat) (s : Bool) (H : Fields b 2047 0 s) (w : World) :
    Calls Try.prog 96 #[.int .u64 b] w fun e w' => e = .returned (.float .f64 b) ∧ w' = w := by
  have a1 : bits .and .u64 ((b : Int) / 4503599627370496) 2047 = 2047 := H.a1
  have a2 : bits .and .u64 (b : Int) 4503599627370495 = 0 := H.a2
  have a3 := H.a3
  have hb := hid H.hb
  have hof : ∀ w, (convert 37 24 (.int .u64 0)).run Try.prog w = .ok (.float .f64 (F 0 1074)) w := ofint_run 0 (by omega)
  have hd := fun t w => run_float_arith (P := Try.prog) w .quo t .f64 _ 4841369599423283200 _ (cut_F 0 1022 (by omega) (by omega))
  have d1 := fun t w => run_float_arith (P := Try.prog) w .quo t .f64 4607182418800017408 0 9218868437227405312 (by decide)
  have n2 := neg_run 9218868437227405312 18442240474082181120 (by decide)
  generalize F 0 1074 = y1 at *
  generalize F 0 1022 = y2 at *
  clear H
  cases s
  · have hb' := hid (show b = 9218868437227405312 by have := hb.out; rw [if_neg (by simp)] at this; omega)
    clear hb
    go_enter Try.func96, Try.ntmps96
    go_wp2
    go_ret
    exact ⟨by rw [hb'.out]; rfl, rfl⟩
  · have hb' := hid (show b = 18442240474082181120 by have := hb.out; rw [if_pos rfl] at this; omega)
    clear hb
    go_enter Try.func96, Try.ntmps96
    go_wp2
    go_ret
    exact ⟨by rw [hb'.out]; rfl, rfl⟩

set_option maxRecDepth 100000 in
set_option maxHeartbeats 1600000 in
theorem spec_FloatOf_norm (b e f : Nat) (s : Bool) (H : Fields b e f s) (h0 : 1 ≤ e) (h1 : e ≤ 2046) (w : World) :
    Calls Try.prog 96 #[.int .u64 b] w fun e w' => e = .returned (.float .f64 b) ∧ w' = w := by
  have a1 := H.a1
  have a2 := H.a2
  have a3 := H.a3
  have hbp : Hid (s = false → b = e * 4503599627370496 + f) := fun h => by have := H.hb; rw [h, if_neg (by simp), Nat.zero_add] at this; exact this
  have hbn : Hid (s = true → b = 9223372036854775808 + (e * 4503599627370496 + f)) := fun h => by have := H.hb; rw [h, if_pos rfl] at this; exact this
  have hf := H.hf
  have hof := ofint_run f hf
  have hd := fun t w => run_float_arith (P := Try.prog) w .quo t .f64 _ 4841369599423283200 _ (cut_F f 1022 (by omega) (by omega))
  have hm := fun t w => run_float_arith (P := Try.prog) w .add t .f64 _ 4607182418800017408 _ (more_F f hf)
  have hne : ((e : Int) == 2047) = false := beq_eq_false_iff_ne.2 (by omega)
  have hne0 : ((e : Int) == 0) = false := beq_eq_false_iff_ne.2 (by omega)
  have E0 : (1 : Int) ≤ e := by omega
  have E1 : (e : Int) ≤ 2046 := by omega
  have Hfin : Hid (F (2 ^ 52 + f) (e - 1) = e * 4503599627370496 + f) := by
    have := F_norm (e - 1) f hf (by omega)
    rw [show (e - 1 + 1) * 2 ^ 52 + f = e * 4503599627370496 + f by omega] at this
    exact this
  have Hc : Hid (2 ^ 52 + f < 2 ^ 53) := hid (by omega)
  have He := hid (show e - 1 + 1 = e by omega)
  have HF := hid hf
  have H1 := hid h1
  generalize F f 1074 = y1 at *
  generalize F f 1022 = y2 at *
  generalize 2 ^ 52 + f = c at *
  generalize e - 1 = T at *
  clear H h0 h1 hf
  go_enter Try.func96, Try.ntmps96
  go_wp2
  clear hof hd hm hne hne0
  go_loopw [6, 7] (fun a k wr => ∃ j : Nat, a = .float .f64 (F c j) ∧ k = .int .i64 ((T : Int) - j) ∧ Hid (1022 ≤ j) ∧ Hid (j ≤ 2045) ∧ wr = w) (fun _ k _ => (intOf k).toNat)
  case atStart => exact ⟨1022, rfl, by have := He.out; go_num, hid (by omega), hid (by omega), rfl⟩
  case round =>
    obtain ⟨j, rfl, rfl, P1, P2, rfl⟩ := hrel
    have hT : (T : Int) ≤ 2045 := by have := He.out; have := H1.out; omega
    have hT0 : (0 : Int) ≤ T := by omega
    have hj0 : (0 : Int) ≤ j := by omega
    have hj1 : (j : Int) ≤ 2045 := by have := P2.out; omega
    by_cases hlt : (0 : Int) < (T : Int) - j
    · have hx := fun t w => run_float_arith (P := Try.prog) w .mul t .f64 _ 4611686018427387904 _ (double_F c j Hc.out (by omega))
      go_wp2
      go_roundw
      case rel => exact ⟨j + 1, rfl, by go_num, hid (by have := P1.out; omega), hid (by omega), by first | trivial | rfl⟩
      case measure => simp [intOf]; omega
    · have Q0 := hid (show T ≤ j by omega)
      go_wp2
      go_loopw [6, 7] (fun a k wr' => ∃ i : Nat, a = .float .f64 (F c i) ∧ k = .int .i64 ((T : Int) - i) ∧ Hid (T ≤ i) ∧ Hid (i ≤ 2045) ∧ wr' = wr) (fun _ k _ => (-(intOf k)).toNat)
      case atStart => exact ⟨j, rfl, rfl, Q0, P2, rfl⟩
      case round =>
        obtain ⟨i, rfl, rfl, R1, R2, rfl⟩ := hrel
        have hi0 : (0 : Int) ≤ i := by omega
        have hi1 : (i : Int) ≤ 2045 := by have := R2.out; omega
        by_cases hlt2 : (T : Int) - i < 0
        · obtain ⟨i', hi'⟩ : ∃ i', i = i' + 1 := ⟨i - 1, by omega⟩
          have Hi := hid hi'
          have hx := fun t w => run_float_arith (P := Try.prog) w .quo t .f64 (F c i) 4611686018427387904 (F c i') (by rw [hi']; exact half_F c i' Hc.out (by omega))
          clear hi'
          go_wp2
          go_roundw
          case rel => exact ⟨i', rfl, by have := Hi.out; go_num, hid (by have := Hi.out; omega), hid (by have := Hi.out; omega), by first | trivial | rfl⟩
          case measure => have := Hi.out; simp [intOf]; omega
        · have ei := hid (show i = T by have := R1.out; omega)
          have hn := neg_run (F c i) (9223372036854775808 + F c i) (neg_bits' _ (by rw [ei.out, Hfin.out]; have := HF.out; have := He.out; have := H1.out; omega))
          cases s
          · go_wp2
            go_ret
            exact ⟨by rw [show b = F c i by rw [ei.out, Hfin.out, hbp.out (by first | trivial | rfl)]]; rfl, rfl⟩
          · go_wp2
            go_ret
            exact ⟨by rw [show b = 9223372036854775808 + F c i by rw [ei.out, Hfin.out, hbn.out (by first | trivial | rfl)]]; rfl, rfl⟩
set_option maxRecDepth 100000 in
set_option maxHeartbeats 1600000 in
theorem spec_FloatOf_low (b f : Nat) (s : Bool) (H : Fields b 0 f s) (w : World) :
    Calls Try.prog 96 #[.int .u64 b] w fun e w' => e = .returned (.float .f64 b) ∧ w' = w := by
  have a1 : bits .and .u64 ((b : Int) / 4503599627370496) 2047 = 0 := H.a1
  have a2 := H.a2
  have a3 := H.a3
  have hbp : Hid (s = false → b = f) := fun h => by have := H.hb; rw [h, if_neg (by simp)] at this; omega
  have hbn : Hid (s = true → b = 9223372036854775808 + f) := fun h => by have := H.hb; rw [h, if_pos rfl] at this; omega
  have hf := H.hf
  have hof := ofint_run f hf
  have hd := fun t w => run_float_arith (P := Try.prog) w .quo t .f64 _ 4841369599423283200 _ (cut_F f 1022 (by omega) (by omega))
  have Hfin : Hid (F f 0 = f) := F_sub f hf
  have Hc : Hid (f < 2 ^ 53) := hid (by omega)
  have HF := hid hf
  obtain ⟨T, HT⟩ : ∃ T : Nat, Hid (T = 0) := ⟨0, rfl⟩
  generalize F f 1074 = y1 at *
  clear H hf
  go_enter Try.func96, Try.ntmps96
  go_wp2
  clear hof hd
  go_loopw [6, 7] (fun a k wr => ∃ j : Nat, a = .float .f64 (F f j) ∧ k = .int .i64 ((T : Int) - j) ∧ Hid (1022 ≤ j) ∧ Hid (j ≤ 2045) ∧ wr = w) (fun _ k _ => (intOf k).toNat)
  case atStart => exact ⟨1022, rfl, by have := HT.out; go_num, hid (by omega), hid (by omega), rfl⟩
  case round =>
    obtain ⟨j, rfl, rfl, P1, P2, rfl⟩ := hrel
    have hT : (T : Int) ≤ 2045 := by have := HT.out; omega
    have hT0 : (0 : Int) ≤ T := by omega
    have hj0 : (0 : Int) ≤ j := by omega
    have hj1 : (j : Int) ≤ 2045 := by have := P2.out; omega
    by_cases hlt : (0 : Int) < (T : Int) - j
    · have hx := fun t w => run_float_arith (P := Try.prog) w .mul t .f64 _ 4611686018427387904 _ (double_F f j Hc.out (by omega))
      go_wp2
      go_roundw
      case rel => exact ⟨j + 1, rfl, by go_num, hid (by have := P1.out; omega), hid (by omega), by first | trivial | rfl⟩
      case measure => simp [intOf]; omega
    · have Q0 := hid (show T ≤ j by omega)
      go_wp2
      go_loopw [6, 7] (fun a k wr' => ∃ i : Nat, a = .float .f64 (F f i) ∧ k = .int .i64 ((T : Int) - i) ∧ Hid (T ≤ i) ∧ Hid (i ≤ 2045) ∧ wr' = wr) (fun _ k _ => (-(intOf k)).toNat)
      case atStart => exact ⟨j, rfl, rfl, Q0, P2, rfl⟩
      case round =>
        obtain ⟨i, rfl, rfl, R1, R2, rfl⟩ := hrel
        have hi0 : (0 : Int) ≤ i := by omega
        have hi1 : (i : Int) ≤ 2045 := by have := R2.out; omega
        by_cases hlt2 : (T : Int) - i < 0
        · obtain ⟨i', hi'⟩ : ∃ i', i = i' + 1 := ⟨i - 1, by omega⟩
          have Hi := hid hi'
          have hx := fun t w => run_float_arith (P := Try.prog) w .quo t .f64 (F f i) 4611686018427387904 (F f i') (by rw [hi']; exact half_F f i' Hc.out (by omega))
          clear hi'
          go_wp2
          go_roundw
          case rel => exact ⟨i', rfl, by have := Hi.out; go_num, hid (by have := Hi.out; omega), hid (by have := Hi.out; omega), by first | trivial | rfl⟩
          case measure => have := Hi.out; simp [intOf]; omega
        · have ei := hid (show i = T by have := R1.out; omega)
          have hn := neg_run (F f i) (9223372036854775808 + F f i) (neg_bits' _ (by rw [ei.out, HT.out, Hfin.out]; have := HF.out; omega))
          cases s
          · go_wp2
            go_ret
            exact ⟨by rw [show b = F f i by rw [ei.out, HT.out, Hfin.out, hbp.out (by first | trivial | rfl)]]; rfl, rfl⟩
          · go_wp2
            go_ret
            exact ⟨by rw [show b = 9223372036854775808 + F f i by rw [ei.out, HT.out, Hfin.out, hbn.out (by first | trivial | rfl)]]; rfl, rfl⟩

theorem spec_FloatOf (b : Nat) (hb : b < 18446744073709551616) (w : World) :
    Calls Try.prog 96 #[.int .u64 b] w fun e w' => ∃ y : Nat, e = .returned (.float .f64 y) ∧ y < 18446744073709551616 ∧ Hid (isN b = false → y = b) ∧ Hid (isN b = isN y) ∧ Still w w' := by
  obtain ⟨e, f, s, H⟩ := fields b hb
  have h1 := H.he
  have h2 := H.hf
  have h3 := H.hb
  have hm : b % 9223372036854775808 = e * 4503599627370496 + f := by
    cases s
    · rw [if_neg (by simp)] at h3; omega
    · rw [if_pos rfl] at h3; omega
  have keep : ∀ w', w' = w → Still w w' := fun w' h => by subst h; exact Still.refl _
  by_cases he : e = 2047
  · subst he
    by_cases hf : f = 0
    · subst hf
      refine (spec_FloatOf_inf b s H w).mono ?_
      rintro x w1 ⟨rfl, e1⟩
      exact ⟨b, rfl, hb, hid (fun _ => rfl), hid rfl, keep w1 e1⟩
    · refine (spec_FloatOf_nan b f s H hf w).mono ?_
      rintro x w1 ⟨y, rfl, n1, n2, st⟩
      have hN : isN b = true := (isN_iff b).2 (by omega)
      exact ⟨y, rfl, n2, hid (fun h => by rw [hN] at h; cases h), hid (by rw [hN, n1]), st⟩
  · by_cases h0 : e = 0
    · subst h0
      refine (spec_FloatOf_low b f s H w).mono ?_
      rintro x w1 ⟨rfl, e1⟩
      exact ⟨b, rfl, hb, hid (fun _ => rfl), hid rfl, keep w1 e1⟩
    · refine (spec_FloatOf_norm b e f s H (by omega) (by omega) w).mono ?_
      rintro x w1 ⟨rfl, e1⟩
      exact ⟨b, rfl, hb, hid (fun _ => rfl), hid rfl, keep w1 e1⟩
end Go.Proofs.Ytlapfmfaammheaa
/- One float, all NaNs being one. No statement of its own; no conditions. -/

namespace Go.Proofs.Ytlapfmfaammheaa

/-- One float, all NaNs being one. -/
def Same (x y : Nat) : Prop := (isN x = true ∧ isN y = true) ∨ (isN x = false ∧ y = x)
theorem Same.refl (x : Nat) : Same x x := by
  by_cases h : isN x = true
  · exact .inl ⟨h, h⟩
  · exact .inr ⟨by simpa using h, rfl⟩
theorem Same.symm {x y : Nat} (h : Same x y) : Same y x := by
  rcases h with ⟨a, b⟩ | ⟨a, rfl⟩
  · exact .inl ⟨b, a⟩
  · exact .inr ⟨a, rfl⟩
theorem Same.trans {x y z : Nat} (h : Same x y) (k : Same y z) : Same x z := by
  rcases h with ⟨a, b⟩ | ⟨a, rfl⟩
  · rcases k with ⟨c, d⟩ | ⟨c, rfl⟩
    · exact .inl ⟨a, d⟩
    · rw [b] at c; cases c
  · exact k
end Go.Proofs.Ytlapfmfaammheaa
/- The contracts of the specification's FloatRank, FloatUnrank and FloatCompare and of the laws' sameFloat; the laws of chapter 2 on FloatBits, FloatOf, FloatRank, FloatUnrank, FloatCompare. For every argument. -/


namespace Go.Proofs.Ytlapfmfaammheaa
open Go.RowKit Ieee

theorem sameFloat_walk (x y : Nat) (hx : x < 18446744073709551616) (hy : y < 18446744073709551616) (hs : Same x y) (w : World) :
    Calls Try.prog 91 #[.float .f64 x, .float .f64 y] w fun e w' => e = .returned (.bool true) ∧ w' = w := by
  rcases hs with ⟨n1, n2⟩ | ⟨n1, rfl⟩
  · have o1 := order_l x x hx n1
    have o2 := order_l y y hy n2
    clear hx hy n1 n2
    go_enter Try.func91, Try.ntmps91
    go_wp2
    go_ret
    exact ⟨rfl, rfl⟩
  · have o1 := order_eq y y hx hx n1 n1 rfl
    by_cases h0 : y % 9223372036854775808 = 0
    · have h2 : y = 0 ∨ y = 9223372036854775808 := by omega
      clear hx hy n1 h0
      have d1 := fun t w => run_float_arith (P := Try.prog) w .quo t .f64 4607182418800017408 0 9218868437227405312 (by decide)
      have d2 := fun t w => run_float_arith (P := Try.prog) w .quo t .f64 4607182418800017408 9223372036854775808 18442240474082181120 (by decide)
      have o3 : FloatKind.f64.format.order 9218868437227405312 0 = some .gt := by decide
      have o4 : FloatKind.f64.format.order 18442240474082181120 0 = some .lt := by decide
      have o5 : FloatKind.f64.format.order 9223372036854775808 0 = some .eq := by decide
      rcases h2 with rfl | rfl
      all_goals
        go_enter Try.func91, Try.ntmps91
        go_wp2
        go_ret
        exact ⟨rfl, rfl⟩
    · have hm := (isN_not y).1 n1
      have o2 : FloatKind.f64.format.order y 0 = some .lt ∨ FloatKind.f64.format.order y 0 = some .gt := by
        by_cases hp : y < 9223372036854775808
        · exact .inr (order_gt y 0 hx (by omega) n1 isN_zero (by rw [kx_zero, kx, if_pos hp]; omega))
        · exact .inl (order_lt y 0 hx (by omega) n1 isN_zero (by rw [kx_zero, kx, if_neg hp]; omega))
      clear hx hy n1 h0 hm
      rcases o2 with o2 | o2
      all_goals
        go_enter Try.func91, Try.ntmps91
        go_wp2
        go_ret
        exact ⟨rfl, rfl⟩

theorem or_top (x : Nat) (h : x < 9223372036854775808) : bits .or .u64 (x : Int) 9223372036854775808 = ((x + 9223372036854775808 : Nat) : Int) := by
  have := u64_or_nat x 9223372036854775808 (by omega) (by omega)
  rw [Nat.or_comm, nat_join 63 _ _ (by decide) (by omega), Nat.add_comm] at this
  exact this

theorem spec_FloatRank (x : Nat) (hx : x < 18446744073709551616) (w : World) :
    Calls Try.prog 93 #[.float .f64 x] w fun e w' => e = .returned (.int .u64 (frank x)) ∧ w' = w := by
  by_cases hn : isN x = true
  · have ef : frank x = 18446744073709551615 := by rw [frank, if_pos hn]
    have eb : fbits x = 9221120237041090560 := by rw [fbits, if_pos hn]
    go_enter Try.func93, Try.ntmps93
    go_wp2_with fail
    refine (spec_FloatBits x hx w).mono ?_
    rintro e w1 ⟨rfl, rfl⟩
    rw [eb]
    go_wp2_with fail
    go_ret
    exact ⟨by rw [ef]; rfl, rfl⟩
  · have hn' : isN x = false := by simpa using hn
    have hm := (isN_not x).1 hn'
    have eb : fbits x = x := by rw [fbits, if_neg hn]
    have hne : ((x : Int) == 9221120237041090560) = false := beq_eq_false_iff_ne.2 (by omega)
    by_cases h0 : x % 9223372036854775808 = 0
    · have ef : frank x = 9223372036854775808 := by rw [frank, if_neg hn, if_pos h0]
      have o := order_eq x 0 hx (by omega) hn' isN_zero (by rw [kx_zero, kx]; split <;> omega)
      clear hm h0 hn hn'
      go_enter Try.func93, Try.ntmps93
      go_wp2_with fail
      refine (spec_FloatBits x hx w).mono ?_
      rintro e w1 ⟨rfl, rfl⟩
      rw [eb]
      go_wp2_with fail
      go_ret
      exact ⟨by rw [ef]; rfl, rfl⟩
    · by_cases hs : x < 9223372036854775808
      · have ef := hid (show frank x = x + 9223372036854775808 by rw [frank, if_neg hn, if_neg h0, if_pos hs])
        have o := order_gt x 0 hx (by omega) hn' isN_zero (by rw [kx_zero, kx]; split <;> omega)
        have ht : ((x : Int) / 9223372036854775808 == 1) = false := beq_eq_false_iff_ne.2 (by omega)
        have hor := or_top x hs
        clear hm h0 hn hn' hs
        go_enter Try.func93, Try.ntmps93
        go_wp2_with fail
        refine (spec_FloatBits x hx w).mono ?_
        rintro e w1 ⟨rfl, rfl⟩
        rw [eb]
        go_wp2_with fail
        go_ret
        exact ⟨by rw [ef.out]; rfl, rfl⟩
      · have ef := hid (show frank x = 18446744073709551615 - x by rw [frank, if_neg hn, if_neg h0, if_neg hs])
        have o := order_lt x 0 hx (by omega) hn' isN_zero (by rw [kx_zero, kx]; split <;> omega)
        have ht : ((x : Int) / 9223372036854775808 == 1) = true := beq_iff_eq.2 (by omega)
        have hnot := not64 x hx
        clear hm h0 hn hn' hs
        go_enter Try.func93, Try.ntmps93
        go_wp2_with fail
        refine (spec_FloatBits x hx w).mono ?_
        rintro e w1 ⟨rfl, rfl⟩
        rw [eb]
        go_wp2_with fail
        go_ret
        exact ⟨by rw [ef.out]; rfl, rfl⟩

theorem frank_same (x y : Nat) (h1 : isN x = false → y = x) (h2 : isN x = isN y) : frank y = frank x := by
  by_cases hn : isN x = true
  · rw [frank, frank, if_pos hn, if_pos (by rw [← h2]; exact hn)]
  · rw [h1 (by simpa using hn)]

theorem same_of {x y : Nat} (h1 : isN x = false → y = x) (h2 : isN x = isN y) : Same x y := by
  by_cases hn : isN x = true
  · exact .inl ⟨hn, by rw [← h2]; exact hn⟩
  · have hn' : isN x = false := by simpa using hn
    exact .inr ⟨hn', h1 hn'⟩

/-- What FloatUnrank answers, as the specification does it. -/
def Unrank (k : Nat) (y : Nat) (ok : Bool) : Prop :=
  (frank (back k) = k ∧ ok = true ∧ Same (back k) y) ∨ (¬ frank (back k) = k ∧ ok = false ∧ y = 0)

theorem spec_FloatUnrank (k : Nat) (hk : k < 18446744073709551616) (w : World) :
    Calls Try.prog 95 #[.int .u64 k] w fun e w' => ∃ y ok, e = .returned (.tuple #[.float .f64 y, .bool ok]) ∧ y < 18446744073709551616 ∧ Hid (Unrank k y ok) ∧ Still w w' := by
  have hbl := back_lt k hk
  by_cases hmax : k = 18446744073709551615
  · subst hmax
    have hbN : isN (back 18446744073709551615) = true := by decide
    have hf : frank (back 18446744073709551615) = 18446744073709551615 := by rw [frank, if_pos hbN]
    go_enter Try.func95, Try.ntmps95
    go_wp2_with fail
    refine (spec_FloatOf 9221120237041090560 (by omega) _).mono ?_
    rintro e w1 ⟨y, rfl, hy, h1, h2, st⟩
    have hyN : isN y = true := by rw [← h2.out]; decide
    have hr : frank y = 18446744073709551615 := by rw [frank, if_pos hyN]
    go_wp2_with fail
    refine (spec_FloatRank y hy _).mono ?_
    rintro e w2 ⟨rfl, rfl⟩
    rw [hr]
    go_wp2_with fail
    go_ret2
    exact ⟨y, true, rfl, hy, hid (.inl ⟨hf, rfl, .inl ⟨hbN, hyN⟩⟩), st⟩
  · have hkm : ((k : Int) == 18446744073709551615) = false := beq_eq_false_iff_ne.2 (by omega)
    by_cases hge : 9223372036854775808 ≤ k
    · have ht : ((k : Int) / 9223372036854775808 == 1) = true := beq_iff_eq.2 (by omega)
      have hand : bits .and .u64 (k : Int) 9223372036854775807 = (back k : Int) := by
        have := u64_and_nat k 9223372036854775807 hk (by omega)
        rw [show (9223372036854775807 : Nat) = 2 ^ 63 - 1 from rfl, Nat.and_two_pow_sub_one_eq_mod] at this
        rw [back, if_pos hge, show k - 9223372036854775808 = k % 2 ^ 63 by omega]
        exact this
      clear hmax hge
      by_cases hf : frank (back k) = k
      · go_enter Try.func95, Try.ntmps95
        go_wp2_with fail
        refine (spec_FloatOf (back k) hbl _).mono ?_
        rintro e w1 ⟨y, rfl, hy, h1, h2, st⟩
        have hr := frank_same (back k) y h1.out h2.out
        have hne : ((frank y : Int) != (k : Int)) = false := by rw [hr, hf]; simp
        have hh := hid hr
        clear hr
        go_wp2_with fail
        refine (spec_FloatRank y hy _).mono ?_
        rintro e w2 ⟨rfl, rfl⟩
        go_wp2_with fail
        go_ret2
        exact ⟨y, true, rfl, hy, hid (.inl ⟨hf, rfl, same_of h1.out h2.out⟩), st⟩
      · go_enter Try.func95, Try.ntmps95
        go_wp2_with fail
        refine (spec_FloatOf (back k) hbl _).mono ?_
        rintro e w1 ⟨y, rfl, hy, h1, h2, st⟩
        have hr := frank_same (back k) y h1.out h2.out
        have hne : ((frank y : Int) != (k : Int)) = true := by rw [hr]; simp; omega
        have hh := hid hr
        clear hr
        go_wp2_with fail
        refine (spec_FloatRank y hy _).mono ?_
        rintro e w2 ⟨rfl, rfl⟩
        go_wp2_with fail
        go_ret2
        exact ⟨0, false, rfl, by omega, hid (.inr ⟨hf, rfl, rfl⟩), st⟩
    · have ht : ((k : Int) / 9223372036854775808 == 1) = false := beq_eq_false_iff_ne.2 (by omega)
      have hnot := not64 k hk
      have eb : 18446744073709551615 - k = back k := by rw [back, if_neg hge]
      rw [eb] at hnot
      clear hmax hge eb
      by_cases hf : frank (back k) = k
      · go_enter Try.func95, Try.ntmps95
        go_wp2_with fail
        refine (spec_FloatOf (back k) hbl _).mono ?_
        rintro e w1 ⟨y, rfl, hy, h1, h2, st⟩
        have hr := frank_same (back k) y h1.out h2.out
        have hne : ((frank y : Int) != (k : Int)) = false := by rw [hr, hf]; simp
        have hh := hid hr
        clear hr
        go_wp2_with fail
        refine (spec_FloatRank y hy _).mono ?_
        rintro e w2 ⟨rfl, rfl⟩
        go_wp2_with fail
        go_ret2
        exact ⟨y, true, rfl, hy, hid (.inl ⟨hf, rfl, same_of h1.out h2.out⟩), st⟩
      · go_enter Try.func95, Try.ntmps95
        go_wp2_with fail
        refine (spec_FloatOf (back k) hbl _).mono ?_
        rintro e w1 ⟨y, rfl, hy, h1, h2, st⟩
        have hr := frank_same (back k) y h1.out h2.out
        have hne : ((frank y : Int) != (k : Int)) = true := by rw [hr]; simp; omega
        have hh := hid hr
        clear hr
        go_wp2_with fail
        refine (spec_FloatRank y hy _).mono ?_
        rintro e w2 ⟨rfl, rfl⟩
        go_wp2_with fail
        go_ret2
        exact ⟨0, false, rfl, by omega, hid (.inr ⟨hf, rfl, rfl⟩), st⟩

end Go.Proofs.Ytlapfmfaammheaa
/- Items: what is ItemOk; the contracts of the specification's ItemOk and KeyOk and of the laws' szItem, toItem, eqItem. Conditions: texts of at most 2^21 bytes where memory is made. -/


namespace Go.Proofs.Ytlapfmfaammheaa
open Go.RowKit

/-- Whether an item is right. -/
def okI (K N : Int) (f n : Nat) : Bool := decide (0 ≤ K ∧ K ≤ 3 ∧ n ≤ 40 ∧ (K = 1 ∨ N = 0) ∧ (K = 2 ∨ f = 0) ∧ (K = 3 ∨ n = 0))

theorem fbits_zero (f : Nat) : fbits f = 0 ↔ f = 0 := by
  unfold fbits
  split
  · rename_i h
    constructor
    · intro h'; omega
    · intro h'; subst h'; exact absurd h (by decide)
  · exact Iff.rfl

theorem fbits_ne (f : Nat) (h : f ≠ 0) : ((fbits f : Int) != 0) = true := by
  have := fun e => h ((fbits_zero f).1 e)
  simp
  omega

set_option maxRecDepth 100000 in
set_option maxHeartbeats 1600000 in
theorem spec_ItemOk (K N : Int) (f : Nat) (ad : Option Addr) (n cap : Nat) (hf : f < 18446744073709551616) (hn : n ≤ 2097152) (w : World) :
    Calls Try.prog 17 #[.agg #[.int .i64 K, .int .i64 N, .float .f64 f, .slice ad n cap]] w fun e w' => e = .returned (.bool (okI K N f n)) ∧ Below w.heap.size w w' := by
  have hA : Below w.heap.size w (w.alloc (.cells #[.int .i64 K, .int .i64 N, .float .f64 f, .slice ad n cap] 26)) := (Below.refl _ _).alloc (Nat.le_refl _) _
  have HA := hid hA
  clear hA
  by_cases h1 : K < 0
  · rw [show okI K N f n = false from decide_eq_false (by omega)]
    go_enter Try.func17, Try.ntmps17
    go_wp2
    go_ret
    exact ⟨rfl, HA.out⟩
  by_cases h2 : 3 < K
  · rw [show okI K N f n = false from decide_eq_false (by omega)]
    go_enter Try.func17, Try.ntmps17
    go_wp2
    go_ret
    exact ⟨rfl, HA.out⟩
  by_cases h3 : 40 < n
  · rw [show okI K N f n = false from decide_eq_false (by omega)]
    have h3' : (40 : Int) < (n : Int) := by omega
    go_enter Try.func17, Try.ntmps17
    go_wp2
    go_ret
    exact ⟨rfl, HA.out⟩
  have h3' : ¬ (40 : Int) < (n : Int) := by omega
  by_cases h4 : K ≠ 1 ∧ N ≠ 0
  · rw [show okI K N f n = false from decide_eq_false (by omega)]
    have q1 : (K != 1) = true := by simp [h4.1]
    have q2 : (N != 0) = true := by simp [h4.2]
    go_enter Try.func17, Try.ntmps17
    go_wp2
    go_ret
    exact ⟨rfl, HA.out⟩
  by_cases h5 : K = 1
  · subst h5
    by_cases h6 : f = 0
    · subst h6
      have hz : fbits 0 = 0 := by decide
      by_cases h7 : n = 0
      · subst h7
        rw [show okI 1 N 0 0 = true from decide_eq_true (by omega)]
        go_enter Try.func17, Try.ntmps17
        go_wp2_with fail
        refine (spec_FloatBits 0 hf _).mono ?_
        rintro e w1 ⟨rfl, rfl⟩
        rw [hz]
        go_wp2_with fail
        go_ret
        exact ⟨rfl, HA.out⟩
      · rw [show okI 1 N 0 n = false from decide_eq_false (by omega)]
        have q7 : ((n : Int) == 0) = false := beq_eq_false_iff_ne.2 (by omega)
        go_enter Try.func17, Try.ntmps17
        go_wp2_with fail
        refine (spec_FloatBits 0 hf _).mono ?_
        rintro e w1 ⟨rfl, rfl⟩
        rw [hz]
        go_wp2_with fail
        go_ret
        exact ⟨rfl, HA.out⟩
    · rw [show okI 1 N f n = false from decide_eq_false (by omega)]
      have q6 : ((fbits f : Int) != 0) = true := fbits_ne f h6
      go_enter Try.func17, Try.ntmps17
      go_wp2_with fail
      refine (spec_FloatBits f hf _).mono ?_
      rintro e w1 ⟨rfl, rfl⟩
      go_wp2_with fail
      go_ret
      exact ⟨rfl, HA.out⟩
  have h8 : N = 0 := by omega
  subst h8
  have q1 : (K != 1) = true := by simp [h5]
  by_cases h9 : K = 2
  · subst h9
    by_cases h7 : n = 0
    · subst h7
      rw [show okI 2 0 f 0 = true from decide_eq_true (by omega)]
      go_enter Try.func17, Try.ntmps17
      go_wp2
      go_ret
      exact ⟨rfl, HA.out⟩
    · rw [show okI 2 0 f n = false from decide_eq_false (by omega)]
      have q7 : ((n : Int) == 0) = false := beq_eq_false_iff_ne.2 (by omega)
      go_enter Try.func17, Try.ntmps17
      go_wp2
      go_ret
      exact ⟨rfl, HA.out⟩
  have q9 : (K != 2) = true := by simp [h9]
  by_cases h6 : f = 0
  · subst h6
    have hz : fbits 0 = 0 := by decide
    by_cases h7 : K = 3
    · subst h7
      rw [show okI 3 0 0 n = true from decide_eq_true (by omega)]
      go_enter Try.func17, Try.ntmps17
      go_wp2_with fail
      refine (spec_FloatBits 0 hf _).mono ?_
      rintro e w1 ⟨rfl, rfl⟩
      rw [hz]
      go_wp2_with fail
      go_ret
      exact ⟨rfl, HA.out⟩
    · have h10 : K = 0 := by omega
      subst h10
      by_cases h7 : n = 0
      · subst h7
        rw [show okI 0 0 0 0 = true from decide_eq_true (by omega)]
        go_enter Try.func17, Try.ntmps17
        go_wp2_with fail
        refine (spec_FloatBits 0 hf _).mono ?_
        rintro e w1 ⟨rfl, rfl⟩
        rw [hz]
        go_wp2_with fail
        go_ret
        exact ⟨rfl, HA.out⟩
      · rw [show okI 0 0 0 n = false from decide_eq_false (by omega)]
        have q7 : ((n : Int) == 0) = false := beq_eq_false_iff_ne.2 (by omega)
        go_enter Try.func17, Try.ntmps17
        go_wp2_with fail
        refine (spec_FloatBits 0 hf _).mono ?_
        rintro e w1 ⟨rfl, rfl⟩
        rw [hz]
        go_wp2_with fail
        go_ret
        exact ⟨rfl, HA.out⟩
  · rw [show okI K 0 f n = false from decide_eq_false (by omega)]
    have q6 : ((fbits f : Int) != 0) = true := fbits_ne f h6
    go_enter Try.func17, Try.ntmps17
    go_wp2_with fail
    refine (spec_FloatBits f hf _).mono ?_
    rintro e w1 ⟨rfl, rfl⟩
    go_wp2_with fail
    go_ret
    exact ⟨rfl, HA.out⟩

/-- Whether an item is a key. -/
def okK (K N : Int) (f n : Nat) : Bool := okI K N f n && decide (K ≠ 0 ∧ f ≠ 9223372036854775808)
end Go.Proofs.Ytlapfmfaammheaa
/- The contracts of the laws' szItem, toItem, eqItem, and of the specification's KeyOk. Conditions: texts of at most 2^21 bytes where memory is made. -/

namespace Go.Proofs.Ytlapfmfaammheaa
open Go.RowKit

/-- The cells of an item. -/
def itemC (K N : Int) (f : Nat) (ad : Option Addr) (n cap : Nat) : Array Value := #[.int .i64 K, .int .i64 N, .float .f64 f, .slice ad n cap]
/-- An item in a block of its own. -/
structure Box (w : World) (g : Nat) (K N : Int) (f : Nat) (ad : Option Addr) (n cap : Nat) : Prop where
  c0 : w.cell? ⟨g, 0, none⟩ = some (.int .i64 K)
  c1 : w.cell? ⟨g, 1, none⟩ = some (.int .i64 N)
  c2 : w.cell? ⟨g, 2, none⟩ = some (.float .f64 f)
  c3 : w.cell? ⟨g, 3, none⟩ = some (.slice ad n cap)
theorem Box.new (w : World) (K N : Int) (f : Nat) (ad : Option Addr) (n cap : Nat) (t : TypeId) : Box (w.alloc (.cells #[.int .i64 K, .int .i64 N, .float .f64 f, .slice ad n cap] t)) w.heap.size K N f ad n cap := by
  have h := heap_alloc_new w (.cells #[.int .i64 K, .int .i64 N, .float .f64 f, .slice ad n cap] t)
  refine ⟨?_, ?_, ?_, ?_⟩ <;> (rw [cell_of_row _ _ _ _ _ _ h]; rfl)
theorem Box.below {w w' : World} {g : Nat} {K N : Int} {f : Nat} {ad : Option Addr} {n cap : Nat} (b : Box w g K N f ad n cap) {B : Nat} (h : Below B w w') (hB : g < B) : Box w' g K N f ad n cap :=
  ⟨(h.cell (p := ⟨g, 0, none⟩) hB).trans b.c0, (h.cell (p := ⟨g, 1, none⟩) hB).trans b.c1, (h.cell (p := ⟨g, 2, none⟩) hB).trans b.c2, (h.cell (p := ⟨g, 3, none⟩) hB).trans b.c3⟩

theorem szByteS (ad : Option Addr) (n cap : Nat) (left : Int) (hn : n ≤ 9223372036854775807) (h0 : 0 ≤ left) (h1 : left ≤ 1048576) (w : World) :
    Calls Try.prog 90 #[.slice ad n cap, .int .i64 left] w fun e w' => e = .returned (.int .i64 (if left < n then -1 else left - n)) ∧ w' = w := by
  have a1 : (0 : Int) ≤ (n : Int) := by omega
  have a2 : (n : Int) ≤ 9223372036854775807 := by omega
  by_cases h : left < n
  · rw [if_pos h]
    have q : left - (n : Int) < 0 := by omega
    go_enter Try.func90, Try.ntmps90
    go_wp2
    go_ret
    exact ⟨rfl, rfl⟩
  · rw [if_neg h]
    have q : ¬ left - (n : Int) < 0 := by omega
    go_enter Try.func90, Try.ntmps90
    go_wp2
    go_ret
    exact ⟨rfl, rfl⟩

theorem szItem (K N : Int) (f : Nat) (ad : Option Addr) (n cap : Nat) (left : Int) (hn : n ≤ 9223372036854775807) (h0 : 0 ≤ left) (h1 : left ≤ 1048576) (w : World) :
    Calls Try.prog 65 #[.agg #[.int .i64 K, .int .i64 N, .float .f64 f, .slice ad n cap], .int .i64 left] w fun e w' => e = .returned (.int .i64 (if left < n then -1 else left - n)) ∧ Below w.heap.size w w' := by
  have HA := hid (show Below w.heap.size w (w.alloc (.cells #[.int .i64 K, .int .i64 N, .float .f64 f, .slice ad n cap] 47)) from (Below.refl _ _).alloc (Nat.le_refl _) _)
  by_cases h : left < n
  · rw [if_pos h]
    go_enter Try.func65, Try.ntmps65
    go_wp2_with fail
    refine (szByteS ad n cap left hn h0 h1 _).mono ?_
    rintro e w1 ⟨rfl, rfl⟩
    rw [if_pos h]
    go_wp2_with fail
    go_ret
    exact ⟨rfl, HA.out⟩
  · rw [if_neg h]
    have q : ¬ left - (n : Int) < 0 := by omega
    have hz := szByteS ad n cap left hn h0 h1
    rw [if_neg h] at hz
    have HZ := hid hz
    clear hz
    go_enter Try.func65, Try.ntmps65
    go_wp2_with fail
    refine (HZ.out _).mono ?_
    rintro e w1 ⟨rfl, rfl⟩
    go_wp2_with fail
    go_ret
    exact ⟨rfl, HA.out⟩

set_option maxRecDepth 100000 in
set_option maxHeartbeats 1600000 in
theorem spec_KeyOk (K N : Int) (f : Nat) (ad : Option Addr) (n cap : Nat) (hf : f < 18446744073709551616) (hn : n ≤ 2097152) (w : World) :
    Calls Try.prog 11 #[.agg #[.int .i64 K, .int .i64 N, .float .f64 f, .slice ad n cap]] w fun e w' => e = .returned (.bool (okK K N f n)) ∧ Below w.heap.size w w' := by
  have hI := spec_ItemOk K N f ad n cap hf hn
  by_cases hok : okI K N f n = true
  · rw [hok] at hI
    by_cases hK : K = 0
    · rw [show okK K N f n = false by rw [okK, decide_eq_false (by omega), Bool.and_false]]
      have q : (K != 0) = false := by simp [hK]
      clear hK hok
      have hA : Below w.heap.size w (w.alloc (.cells #[.int .i64 K, .int .i64 N, .float .f64 f, .slice ad n cap] 26)) := (Below.refl _ _).alloc (Nat.le_refl _) _
      have hB := Box.new w K N f ad n cap 26
      go_enter Try.func11, Try.ntmps11
      go_wp2_with fail
      refine (hI _).mono ?_
      rintro e w1 ⟨rfl, b1⟩
      obtain ⟨c0, c1, c2, c3⟩ := hB.below b1 (by simp)
      have HA := hid (hA.trans (b1.mono hA.size))
      clear hA hB b1
      go_wp2_with fail
      go_ret
      exact ⟨rfl, HA.out⟩
    have q : (K != 0) = true := by simp [hK]
    by_cases h0 : f = 0
    · subst h0
      rw [show okK K N 0 n = true by rw [okK, hok, decide_eq_true (by omega)]; rfl]
      have o : FloatKind.f64.format.order 0 0 = some .eq := by decide
      have hz : fbits 0 = 0 := by decide
      clear hK hok
      have hA : Below w.heap.size w (w.alloc (.cells #[.int .i64 K, .int .i64 N, .float .f64 0, .slice ad n cap] 26)) := (Below.refl _ _).alloc (Nat.le_refl _) _
      have hB := Box.new w K N 0 ad n cap 26
      go_enter Try.func11, Try.ntmps11
      go_wp2_with fail
      refine (hI _).mono ?_
      rintro e w1 ⟨rfl, b1⟩
      obtain ⟨c0, c1, c2, c3⟩ := hB.below b1 (by simp)
      have HA := hid (hA.trans (b1.mono hA.size))
      clear hA hB b1
      go_wp2_with fail
      refine (spec_FloatBits 0 hf _).mono ?_
      rintro e w2 ⟨rfl, rfl⟩
      rw [hz]
      go_wp2_with fail
      go_ret
      exact ⟨rfl, HA.out⟩
    by_cases h1 : f = 9223372036854775808
    · subst h1
      rw [show okK K N 9223372036854775808 n = false by rw [okK, decide_eq_false (by omega), Bool.and_false]]
      have o : FloatKind.f64.format.order 9223372036854775808 0 = some .eq := by decide
      have hz : fbits 9223372036854775808 = 9223372036854775808 := by decide
      clear hK hok
      have hA : Below w.heap.size w (w.alloc (.cells #[.int .i64 K, .int .i64 N, .float .f64 9223372036854775808, .slice ad n cap] 26)) := (Below.refl _ _).alloc (Nat.le_refl _) _
      have hB := Box.new w K N 9223372036854775808 ad n cap 26
      go_enter Try.func11, Try.ntmps11
      go_wp2_with fail
      refine (hI _).mono ?_
      rintro e w1 ⟨rfl, b1⟩
      obtain ⟨c0, c1, c2, c3⟩ := hB.below b1 (by simp)
      have HA := hid (hA.trans (b1.mono hA.size))
      clear hA hB b1
      go_wp2_with fail
      refine (spec_FloatBits 9223372036854775808 hf _).mono ?_
      rintro e w2 ⟨rfl, rfl⟩
      rw [hz]
      go_wp2_with fail
      go_ret
      exact ⟨rfl, HA.out⟩
    rw [show okK K N f n = true by rw [okK, hok, decide_eq_true (by omega)]; rfl]
    have o : FloatKind.f64.format.order f 0 = some .lt ∨ FloatKind.f64.format.order f 0 = some .gt ∨ FloatKind.f64.format.order f 0 = none := by
      by_cases hN : isN f = true
      · exact .inr (.inr (order_l f 0 hf hN))
      · have hN' : isN f = false := by simpa using hN
        have hm := (isN_not f).1 hN'
        by_cases hp : f < 9223372036854775808
        · exact .inr (.inl (order_gt f 0 hf (by omega) hN' isN_zero (by rw [kx_zero, kx, if_pos hp]; omega)))
        · exact .inl (order_lt f 0 hf (by omega) hN' isN_zero (by rw [kx_zero, kx, if_neg hp]; omega))
    clear hK hok h0 h1
    rcases o with o | o | o
    all_goals
      have hA : Below w.heap.size w (w.alloc (.cells #[.int .i64 K, .int .i64 N, .float .f64 f, .slice ad n cap] 26)) := (Below.refl _ _).alloc (Nat.le_refl _) _
      have hB := Box.new w K N f ad n cap 26
      go_enter Try.func11, Try.ntmps11
      go_wp2_with fail
      refine (hI _).mono ?_
      rintro e w1 ⟨rfl, b1⟩
      obtain ⟨c0, c1, c2, c3⟩ := hB.below b1 (by simp)
      have HA := hid (hA.trans (b1.mono hA.size))
      clear hA hB b1
      go_wp2_with fail
      go_ret
      exact ⟨rfl, HA.out⟩
  · have hok' : okI K N f n = false := by simpa using hok
    rw [hok'] at hI
    rw [show okK K N f n = false by rw [okK, hok']; rfl]
    clear hok hok'
    have hA : Below w.heap.size w (w.alloc (.cells #[.int .i64 K, .int .i64 N, .float .f64 f, .slice ad n cap] 26)) := (Below.refl _ _).alloc (Nat.le_refl _) _
    have hB := Box.new w K N f ad n cap 26
    go_enter Try.func11, Try.ntmps11
    go_wp2_with fail
    refine (hI _).mono ?_
    rintro e w1 ⟨rfl, b1⟩
    obtain ⟨c0, c1, c2, c3⟩ := hB.below b1 (by simp)
    have HA := hid (hA.trans (b1.mono hA.size))
    clear hA hB b1
    go_wp2_with fail
    go_ret
    exact ⟨rfl, HA.out⟩
end Go.Proofs.Ytlapfmfaammheaa
/- The contract of the laws' toItem: the same item with a text of its own. Conditions: texts of at most 2^21 bytes. -/


namespace Go.Proofs.Ytlapfmfaammheaa
open Go.RowKit

theorem size26 : (Try.prog.info? 26).map (·.size) = some 4 := by kernel_rfl
theorem alloc_size (w : World) (o : Obj) : (w.alloc o).heap.size = w.heap.size + 1 := by simp
theorem alloc_old (w : World) (o : Obj) (k : Nat) (h : k < w.heap.size) : (w.alloc o).heap[k]? = w.heap[k]? := by
  show (w.heap.push o)[k]? = w.heap[k]?
  rw [Array.getElem?_push, if_neg (by omega)]
theorem three (w : World) (a b c : Obj) :
    (((w.alloc a).alloc b).alloc c).heap.size = w.heap.size + 3 ∧ (((w.alloc a).alloc b).alloc c).heap[w.heap.size + 1]? = some b ∧ (((w.alloc a).alloc b).alloc c).heap[w.heap.size + 1 + 1]? = some c ∧ Below w.heap.size w (((w.alloc a).alloc b).alloc c) := by
  have h1 := alloc_size w a
  have h2 := alloc_size (w.alloc a) b
  have h3 := alloc_size ((w.alloc a).alloc b) c
  refine ⟨by omega, ?_, ?_, (((Below.refl _ _).alloc (Nat.le_refl _) _).alloc (by omega) _).alloc (by omega) _⟩
  · rw [alloc_old _ _ _ (by omega)]
    have := heap_alloc_new (w.alloc a) b
    rwa [h1] at this
  · have := heap_alloc_new ((w.alloc a).alloc b) c
    rwa [h2, h1] at this

theorem owns_at {w w' : World} {base : Nat} {e : TypeId} {s : Nat} {v : Value} {n : Nat} {xs : List Value} (ho : w.ownsRow base e s v n xs) (h : ∀ k, base ≤ k → w'.heap[k]? = w.heap[k]?) : w'.ownsRow base e s v n xs := by
  refine ⟨ho.1, ?_⟩
  rcases ho.2 with hn | ⟨g, cap, cur, rfl, hbg, hg, rest⟩
  · exact .inl hn
  · exact .inr ⟨g, cap, cur, rfl, hbg, by rw [h g hbg]; exact hg, rest⟩
theorem owns_base {w : World} {base base' : Nat} {e : TypeId} {s : Nat} {v : Value} {n : Nat} {xs : List Value} (h : w.ownsRow base e s v n xs) (hb : base' ≤ base) : w.ownsRow base' e s v n xs := by
  refine ⟨h.1, ?_⟩
  rcases h.2 with hn | ⟨g, cap, cur, rfl, hbg, hg, rest⟩
  · exact .inl hn
  · exact .inr ⟨g, cap, cur, rfl, Nat.le_trans hb hbg, hg, rest⟩

set_option maxRecDepth 100000 in
set_option maxHeartbeats 1600000 in
theorem toItem (K N : Int) (f : Nat) {ad : Option Addr} {n : Nat} (cap : Nat) {zs : List Int} {w : World} (h : Reads w ad n zs) (hn : n ≤ 2097152) :
    Calls Try.prog 66 #[.agg #[.int .i64 K, .int .i64 N, .float .f64 f, .slice ad n cap]] w fun e w' => ∃ g, e = .returned (.agg #[.int .i64 K, .int .i64 N, .float .f64 f, .slice (some ⟨g, 0, none⟩) n n]) ∧ w'.ownsRow w.heap.size 5 1 (.slice (some ⟨g, 0, none⟩) n n) n (bys zs) ∧ Below w.heap.size w w' := by
  have hst := fun w a m => run_store Try.prog w a (.float .f64 f) m rfl
  go_enter Try.func66, Try.ntmps66
  go_wp2_with fail
  obtain ⟨z, R1, R2, bW⟩ := three w (.cells #[.int .i64 K, .int .i64 N, .float .f64 f, .slice ad n cap] 47) (.cells #[.int .i64 0, .int .i64 0, .float .f64 0, .slice none 0 0] 26) (.cells #[.int .i64 K, .int .i64 N, .float .f64 f, .slice none 0 0] 26)
  have zW := hid z
  clear z
  generalize ((w.alloc (.cells #[.int .i64 K, .int .i64 N, .float .f64 f, .slice ad n cap] 47)).alloc (.cells #[.int .i64 0, .int .i64 0, .float .f64 0, .slice none 0 0] 26)).alloc (.cells #[.int .i64 K, .int .i64 N, .float .f64 f, .slice none 0 0] 26) = W at *
  refine (toByteS_any cap (h.below bW (Nat.le_refl _)) hn).mono ?_
  rintro e W1 ⟨rfl, o1, b1⟩
  have hW := zW.out
  have S1 : W1.heap[w.heap.size + 1]? = _ := (b1.block _ (by omega)).trans R1
  have S2 : W1.heap[w.heap.size + 1 + 1]? = _ := (b1.block _ (by omega)).trans R2
  have B1 := bW.trans (b1.mono bW.size)
  have O1 := hid o1
  have HW := hid hW
  clear o1 hW zW R1 R2 bW b1
  have c3 : W1.cell? ⟨w.heap.size + 1 + 1, 3, none⟩ = some (.slice none 0 0) := by rw [cell_of_row _ _ _ _ _ _ S2]; rfl
  have fz : W1.frozen? ⟨w.heap.size + 1 + 1, 3, none⟩ = false := frozen_of_row _ _ _ _ _ S2
  have T2 := hid (heap_setCell_same W1 (w.heap.size + 1 + 1) 3 _ 26 (.slice (some ⟨W.heap.size, 0, none⟩) n n) S2)
  have T1 := hid ((heap_setCell_other W1 ⟨w.heap.size + 1 + 1, 3, none⟩ (w.heap.size + 1) (.slice (some ⟨W.heap.size, 0, none⟩) n n) (by simp)).trans S1)
  have BC := hid (B1.setCell (p := ⟨w.heap.size + 1 + 1, 3, none⟩) (by simp; omega) (.slice (some ⟨W.heap.size, 0, none⟩) n n))
  clear S1 S2
  go_wp2_with (first
    | (refine wpList_load_row rfl 26 (.tmp 3) rfl (w.heap.size + 1 + 1) rfl 26 _ (0, 0) _ T2.out Try.underlying26 rfl size26 ?_)
    | (refine wpList_store_row rfl 26 (.tmp 2) (.tmp 17) rfl (w.heap.size + 1) #[.int .i64 K, .int .i64 N, .float .f64 f, .slice (some ⟨W.heap.size, 0, none⟩) n n] rfl rfl 26 _ T1.out ?s1 ?s2 ?s3 ?_))
  case s1 => exact size26
  case s2 => rfl
  case s3 => simp [Value.oneCell']
  have hW := HW.out
  refine bodyPost_ret (results_cell_row Try.results66 _ _ (w.heap.size + 1) 26 #[.int .i64 K, .int .i64 N, .float .f64 f, .slice (some ⟨W.heap.size, 0, none⟩) n n] (0, 0) _ rfl (setRow_heap _ _ _ _ _ _ T1.out) Try.underlying26 rfl size26) rfl ⟨W.heap.size, rfl, owns_base (owns_at O1.out fun k hk => ?_) (by omega), below_setRow BC.out (by omega) _⟩
  rw [setRow_other _ _ _ _ (by omega), heap_setCell_other _ _ _ _ (by simp; omega)]
end Go.Proofs.Ytlapfmfaammheaa
/- The contracts of the laws' eqItem, markItem and heldItem. Conditions: texts of at most 2^21 bytes. -/

namespace Go.Proofs.Ytlapfmfaammheaa
open Go.RowKit

theorem two (w : World) (a b : Obj) : Below w.heap.size w ((w.alloc a).alloc b) := ((Below.refl _ _).alloc (Nat.le_refl _) _).alloc (by simp) _

set_option maxRecDepth 100000 in
set_option maxHeartbeats 1600000 in
/-- Two items that are the same are told so. -/
theorem eqItem (K N : Int) (f f' : Nat) {ad ad' : Option Addr} {n : Nat} (cap cap' : Nat) {zs : List Int} {w : World} (hf : f < 18446744073709551616) (hf' : f' < 18446744073709551616) (hs : Same f f') (h : Reads w ad n zs) (h' : Reads w ad' n zs) (hn : n ≤ 2097152) :
    Calls Try.prog 67 #[.agg #[.int .i64 K, .int .i64 N, .float .f64 f, .slice ad n cap], .agg #[.int .i64 K, .int .i64 N, .float .f64 f', .slice ad' n cap']] w fun e w' => e = .returned (.bool true) ∧ Below w.heap.size w w' := by
  have hB := two w (.cells #[.int .i64 K, .int .i64 N, .float .f64 f, .slice ad n cap] 26) (.cells #[.int .i64 K, .int .i64 N, .float .f64 f', .slice ad' n cap'] 26)
  have H1 := hid (h.below hB (Nat.le_refl _))
  have H2 := hid (h'.below hB (Nat.le_refl _))
  have HB := hid hB
  clear hB h h'
  go_enter Try.func67, Try.ntmps67
  go_wp2_with fail
  refine (sameFloat_walk f f' hf hf' hs _).mono ?_
  rintro e w1 ⟨rfl, hw⟩
  rw [hw]
  clear hw
  go_wp2_with fail
  refine (eqByteS_any cap cap' H1.out H2.out hn).mono ?_
  rintro e w2 ⟨rfl, st⟩
  go_wp2_with fail
  go_ret
  exact ⟨rfl, HB.out.trans (st.below _)⟩
end Go.Proofs.Ytlapfmfaammheaa
/- Texts compared: the contract of the specification's l3texts. Conditions: texts of at most 2^21 bytes. -/

namespace Go.Proofs.Ytlapfmfaammheaa
open Go.RowKit

/-- How two texts stand. -/
def txt : List Int → List Int → Int
  | [], [] => 0
  | [], _ :: _ => -1
  | _ :: _, [] => 1
  | x :: xs, y :: ys => if x < y then -1 else if y < x then 1 else txt xs ys

theorem drop_cons (zs : List Int) (k : Nat) (h : k < zs.length) : zs.drop k = zs.getD k 0 :: zs.drop (k + 1) := by
  rw [List.drop_eq_getElem_cons h]
  simp [List.getD, h]
theorem txt_step (zs ys : List Int) (k : Nat) (h : k < zs.length) (h' : k < ys.length) :
    txt (zs.drop k) (ys.drop k) = if zs.getD k 0 < ys.getD k 0 then -1 else if ys.getD k 0 < zs.getD k 0 then 1 else txt (zs.drop (k + 1)) (ys.drop (k + 1)) := by
  rw [drop_cons zs k h, drop_cons ys k h']
  rfl
theorem txt_end (zs ys : List Int) (k : Nat) (hk : k ≤ zs.length) (hk' : k ≤ ys.length) (h : k = zs.length ∨ k = ys.length) :
    txt (zs.drop k) (ys.drop k) = if zs.length < ys.length then -1 else if ys.length < zs.length then 1 else 0 := by
  by_cases h1 : k = zs.length
  · subst h1
    rw [List.drop_length]
    by_cases h2 : zs.length < ys.length
    · rw [if_pos h2, drop_cons ys _ h2]; rfl
    · rw [if_neg h2, if_neg (by omega), List.drop_eq_nil_of_le (by omega)]; rfl
  · have h2 : k = ys.length := by omega
    subst h2
    rw [List.drop_length, if_neg (by omega), if_pos (by omega), drop_cons zs _ (by omega)]; rfl

/-- How two items stand. -/
def cmpI (K N : Int) (f n : Nat) (zs : List Int) (K' N' : Int) (f' n' : Nat) (zs' : List Int) : Int :=
  if okI K N f n = false ∨ okI K' N' f' n' = false then -2
  else if K ≠ K' then (if K < K' then -1 else 1)
  else if N ≠ N' then (if N < N' then -1 else 1)
  else if cmp3 (frank f) (frank f') ≠ 0 then cmp3 (frank f) (frank f')
  else txt zs zs'

end Go.Proofs.Ytlapfmfaammheaa
/- The contracts of the laws' markItem and heldItem. Conditions: texts of at most 2^21 bytes. -/

namespace Go.Proofs.Ytlapfmfaammheaa
open Go.RowKit

theorem markItem (K N : Int) (f : Nat) {base n cap : Nat} {ad : Option Addr} (k : Int) {xs : List Value} {w : World} (hn : n ≤ 2097152) (hk0 : 0 ≤ k) (hk1 : k ≤ 1000000000) (hown : w.ownsRow base 5 1 (.slice ad n cap) n xs) :
    Calls Try.prog 71 #[.agg #[.int .i64 K, .int .i64 N, .float .f64 f, .slice ad n cap], .int .i64 k] w fun e w' =>
      e = .returned (.int .i64 (k + n)) ∧ w'.ownsRow base 5 1 (.slice ad n cap) n (bys (marks k n)) ∧ w.grownBy w' (Value.slice ad n cap).ownBlock := by
  have o1 := hown.alloc (.cells #[.int .i64 K, .int .i64 N, .float .f64 f, .slice ad n cap] 26)
  have g1 := World.grownBy_alloc w (.cells #[.int .i64 K, .int .i64 N, .float .f64 f, .slice ad n cap] 26) (Value.slice ad n cap).ownBlock
  have O1 := hid o1
  clear o1
  go_enter Try.func71, Try.ntmps71
  go_wp2_with fail
  refine (markByteS_any k hn hk0 hk1 O1.out).mono ?_
  rintro e w1 ⟨rfl, o2, g2⟩
  go_wp2_with fail
  go_ret
  exact ⟨rfl, o2, grown_trans g1 g2⟩

theorem heldItem (K N : Int) (f : Nat) {ad : Option Addr} {n : Nat} (cap : Nat) (k : Int) {w : World} (h : Reads w ad n (marks k n)) (hn : n ≤ 2097152) (hk0 : 0 ≤ k) (hk1 : k ≤ 1000000000) :
    Calls Try.prog 75 #[.agg #[.int .i64 K, .int .i64 N, .float .f64 f, .slice ad n cap], .int .i64 k] w fun e w' => e = .returned (.int .i64 (k + n)) ∧ Below w.heap.size w w' := by
  have hA : Below w.heap.size w (w.alloc (.cells #[.int .i64 K, .int .i64 N, .float .f64 f, .slice ad n cap] 26)) := (Below.refl _ _).alloc (Nat.le_refl _) _
  have H1 := hid (h.below hA (Nat.le_refl _))
  have HA := hid hA
  have q : ¬ (k + (n : Int)) < 0 := by omega
  clear h hA
  go_enter Try.func75, Try.ntmps75
  go_wp2_with fail
  refine (heldByteS_any cap k H1.out hn hk0 hk1).mono ?_
  rintro e w1 ⟨rfl, rfl⟩
  go_wp2_with fail
  go_ret
  exact ⟨rfl, HA.out⟩
end Go.Proofs.Ytlapfmfaammheaa
/- Eight bytes, high first: the contract of the specification's l3high. No conditions. -/

namespace Go.Proofs.Ytlapfmfaammheaa
open Go.RowKit

/-- The byte at place j of eight, high first. -/
def hb (x j : Nat) : Int := ((x / 2 ^ (8 * (7 - j)) % 256 : Nat) : Int)
def hi8 (x k : Nat) : List Int := (List.range k).map (hb x)
theorem hi8_succ (x k : Nat) : hi8 x (k + 1) = hi8 x k ++ [hb x k] := by simp [hi8, List.range_succ]
theorem hi8_length (x k : Nat) : (hi8 x k).length = k := by simp [hi8]
theorem hb_bd (x j : Nat) : 0 ≤ hb x j ∧ hb x j ≤ 255 := by unfold hb; omega

theorem shr_eq (x i : Nat) : (x : Int) / 2 ^ (8 * (i : Int)).toNat = ((x / 2 ^ (8 * i) : Nat) : Int) := by
  rw [show (8 * (i : Int)).toNat = 8 * i by omega]
  simp
theorem and_byte (y : Nat) (h : y < 18446744073709551616) : bits .and .u64 (y : Int) 255 = ((y % 256 : Nat) : Int) := by
  have := u64_and_nat y 255 h (by omega)
  rw [nat_mask8] at this
  exact this

set_option maxRecDepth 100000 in
set_option maxHeartbeats 3200000 in
theorem spec_l3high (x : Nat) (hx : x < 18446744073709551616) (w : World) :
    Calls Try.prog 102 #[.int .u64 x] w fun e w' => ∃ v, e = .returned v ∧ w'.ownsRow w.heap.size 5 1 v 8 (bys (hi8 x 8)) ∧ Below w.heap.size w w' := by
  obtain ⟨i0, hi, hz0, hz1, hz2⟩ := info_parts Try.info5
  go_enter Try.func102, Try.ntmps102
  go_wp2_with fail
  go_loopw [3, 4] (fun v i wr => ∃ k : Nat, k ≤ 8 ∧ i = .int .i64 (7 - (k : Int)) ∧ wr.ownsRow w.heap.size 5 1 v k (bys (hi8 x k)) ∧ Below w.heap.size w wr) (fun _ i _ => (intOf i + 1).toNat)
  case atStart => exact ⟨0, by omega, rfl, World.ownsRow_nil _ _ _ _, Below.refl _ _⟩
  case round =>
    obtain ⟨k, hk, rfl, hown, hb1⟩ := hrel
    by_cases hlt : k < 8
    · obtain ⟨i, hi7⟩ : ∃ i : Nat, 7 - (k : Int) = (i : Int) := ⟨7 - k, by omega⟩
      have hi0 : (0 : Int) ≤ (i : Int) := by omega
      have hi1 : (i : Int) ≤ 7 := by omega
      have hs := shr_eq x i
      have hlq : x / 2 ^ (8 * i) < 18446744073709551616 := Nat.lt_of_le_of_lt (Nat.div_le_self _ _) hx
      have ha := and_byte (x / 2 ^ (8 * i)) hlq
      have hbx : hb x k = ((x / 2 ^ (8 * i) % 256 : Nat) : Int) := by rw [hb, show 7 - k = i by omega]
      have hy := hb_bd x k
      rw [← hbx] at ha
      have z1 := hb1.size
      have HX := hid hbx
      have EI := hid hi7
      rw [hi7]
      generalize x / 2 ^ (8 * i) = q at *
      obtain ⟨y, HY⟩ : ∃ y, Hid (hb x k = y) := ⟨_, rfl⟩
      have hyy := HY.out
      rw [hyy] at ha hy
      clear hyy
      clear hbx hlq hi7
      go_wp2_with (at_builtin; refine wpList_append_own _ rfl _ _ 22 rfl w.heap.size 5 i0 (.int .u8 0) 1 1 Try.underlying22 hi hz0 hz1 hz2 rfl (by decide) _ _ _ rfl (hown.alloc _) ⟨wr.heap.size, 0, none⟩ 1 1 [.int .u8 y] rfl rfl (cell_one_new _ _ _) ?c2 ?c3 ?c4 ?c5 ?_)
      case c2 => intro u hu; simp at hu; subst hu; rfl
      case c3 => unfold maxLen; omega
      case c4 => omega
      case c5 => simp; omega
      intro v' w9 o3 g3 _
      have B9 : Below w.heap.size w w9 := (hb1.alloc z1 _).grown g3 (by simp; omega) (fun r hr => (hown.lt r hr).1)
      have O3 := hid o3
      clear g3 o3 hown hb1
      go_wp2_with fail
      go_roundw
      case rel => exact ⟨k + 1, by omega, by have := EI.out; go_num, by rw [hi8_succ, bys_append, HY.out]; exact O3.out, B9⟩
      case measure => have := EI.out; simp [intOf]
    · have hk8 : k = 8 := by omega
      subst hk8
      go_wp2_with fail
      go_ret
      exact ⟨_, rfl, hown, hb1⟩
end Go.Proofs.Ytlapfmfaammheaa
/- An item as bytes: the contracts of the specification's l3bytes. Conditions: texts of at most 2^21 bytes. -/


namespace Go.Proofs.Ytlapfmfaammheaa
open Go.RowKit

theorem xor_top (N : Int) (h0 : -9223372036854775808 ≤ N) (h1 : N ≤ 9223372036854775807) : bits .xor .u64 (IntKind.u64.wrap N) 9223372036854775808 = (((N + 9223372036854775808).toNat : Nat) : Int) := by
  have e : IntKind.u64.wrap N = N % 18446744073709551616 := by simp [IntKind.wrap, IntKind.bits, IntKind.signed]
  rw [e]
  by_cases hN : 0 ≤ N
  · obtain ⟨m, rfl⟩ := Int.eq_ofNat_of_zero_le hN
    rw [show (m : Int) % 18446744073709551616 = (m : Int) by omega]
    have h := u64_xor_nat m 9223372036854775808 (by omega) (by omega)
    have hx : m ^^^ 9223372036854775808 = 9223372036854775808 + m := neg_bits' m (by omega)
    rw [hx] at h
    rw [show ((m : Int) + 9223372036854775808).toNat = 9223372036854775808 + m by omega]
    exact h
  · obtain ⟨m, hm⟩ := Int.eq_ofNat_of_zero_le (show 0 ≤ N + 9223372036854775808 by omega)
    rw [show N % 18446744073709551616 = ((9223372036854775808 + m : Nat) : Int) by omega, hm]
    have h := u64_xor_nat (9223372036854775808 + m) 9223372036854775808 (by omega) (by omega)
    have hx : (9223372036854775808 + m) ^^^ 9223372036854775808 = m := neg_bits m (by omega)
    rw [hx] at h
    exact h

/-- An item's bytes, with these bits of its float. -/
def bytesI (K N : Int) (B : Nat) (zs : List Int) : List Int := [K] ++ (if K = 1 then hi8 (N + 9223372036854775808).toNat 8 else if K = 2 then hi8 B 8 else zs)

theorem hi8_bd (x k : Nat) : ∀ i, 0 ≤ (hi8 x k).getD i 0 ∧ (hi8 x k).getD i 0 ≤ 255 := by
  intro i
  by_cases h : i < k
  · simp only [hi8, List.getD, List.getElem?_map, List.getElem?_range h, Option.map_some, Option.getD_some]
    exact hb_bd x i
  · simp [hi8, List.getD, h]

set_option maxRecDepth 100000 in
set_option maxHeartbeats 3200000 in
theorem spec_l3bytes_float (N : Int) (f : Nat) (ad : Option Addr) (n cap B : Nat) (hB : B < 18446744073709551616) (w : World) :
    Calls Try.prog 92 #[.agg #[.int .i64 2, .int .i64 N, .float .f64 f, .slice ad n cap], .int .u64 B] w fun e w' => ∃ v, e = .returned v ∧ w'.ownsRow w.heap.size 5 1 v 9 (bys ([2] ++ hi8 B 8)) ∧ Below w.heap.size w w' := by
  obtain ⟨i0, hi, hz0, hz1, hz2⟩ := info_parts Try.info5
  have z1 := alloc_size w (.cells #[.int .i64 2, .int .i64 N, .float .f64 f, .slice ad n cap] 26)
  have o5 := World.ownsRow_lit (base := w.heap.size) (e := 5) (size := 1) (w.alloc (.cells #[.int .i64 2, .int .i64 N, .float .f64 f, .slice ad n cap] 26)) #[.int .u8 2] 1 (by omega) (by unfold maxLen; omega) rfl
  have hT := two w (.cells #[.int .i64 2, .int .i64 N, .float .f64 f, .slice ad n cap] 26) (.cells #[.int .u8 2] 5)
  rw [z1] at o5
  have O5 := hid o5
  clear o5 z1
  go_enter Try.func92, Try.ntmps92
  go_wp2_with fail
  generalize (w.alloc (.cells #[.int .i64 2, .int .i64 N, .float .f64 f, .slice ad n cap] 26)).alloc (.cells #[.int .u8 2] 5) = w1 at *
  refine (spec_l3high B hB _).mono ?_
  rintro e w2 ⟨v, rfl, o2, b2⟩
  obtain ⟨ad2, cap2, rfl, r2, d2⟩ := Reads.own o2 (hi8_bd B 8)
  obtain ⟨bL, oL, rfl⟩ := r2.pos (by omega)
  have o6 := owns_below b2 (Nat.le_refl _) O5.out
  have B2 := hT.trans (b2.mono hT.size)
  have R2 := hid r2
  clear o2 d2 r2 b2 O5
  go_wp2_with (at_builtin; refine wpList_append_own _ rfl _ _ 22 rfl w.heap.size 5 i0 (.int .u8 0) 1 1 Try.underlying22 hi hz0 hz1 hz2 rfl (by decide) _ _ _ rfl o6 ⟨bL, oL, none⟩ 8 cap2 (bys (hi8 B 8)) rfl ?k2 R2.out.news (bys_one _) ?k4 ?k5 ?k6 ?_)
  case k2 => rw [bys_length, hi8_length]
  case k4 => unfold maxLen; omega
  case k5 => omega
  case k6 => exact B2.size
  intro v7 w7 o7 g7 _
  have B7 : Below w.heap.size w w7 := B2.grown g7 B2.size (fun k hk => (o6.lt k hk).1)
  have O7 := hid o7
  clear o7 g7 o6
  go_wp2_with fail
  go_ret
  exact ⟨_, rfl, by have := O7.out; simpa [bys] using this, B7⟩
set_option maxRecDepth 100000 in
set_option maxHeartbeats 3200000 in
theorem spec_l3bytes_int (N : Int) (hN0 : -9223372036854775808 ≤ N) (hN1 : N ≤ 9223372036854775807) (f : Nat) (ad : Option Addr) (n cap B : Nat) (w : World) :
    Calls Try.prog 92 #[.agg #[.int .i64 1, .int .i64 N, .float .f64 f, .slice ad n cap], .int .u64 B] w fun e w' => ∃ v, e = .returned v ∧ w'.ownsRow w.heap.size 5 1 v 9 (bys ([1] ++ hi8 (N + 9223372036854775808).toNat 8)) ∧ Below w.heap.size w w' := by
  obtain ⟨i0, hi, hz0, hz1, hz2⟩ := info_parts Try.info5
  have hx := xor_top N hN0 hN1
  have hX : (N + 9223372036854775808).toNat < 18446744073709551616 := by omega
  generalize (N + 9223372036854775808).toNat = X at *
  have z1 := alloc_size w (.cells #[.int .i64 1, .int .i64 N, .float .f64 f, .slice ad n cap] 26)
  have o5 := World.ownsRow_lit (base := w.heap.size) (e := 5) (size := 1) (w.alloc (.cells #[.int .i64 1, .int .i64 N, .float .f64 f, .slice ad n cap] 26)) #[.int .u8 1] 1 (by omega) (by unfold maxLen; omega) rfl
  have hT := two w (.cells #[.int .i64 1, .int .i64 N, .float .f64 f, .slice ad n cap] 26) (.cells #[.int .u8 1] 5)
  rw [z1] at o5
  have O5 := hid o5
  clear o5 z1
  go_enter Try.func92, Try.ntmps92
  go_wp2_with fail
  generalize (w.alloc (.cells #[.int .i64 1, .int .i64 N, .float .f64 f, .slice ad n cap] 26)).alloc (.cells #[.int .u8 1] 5) = w1 at *
  refine (spec_l3high X hX _).mono ?_
  rintro e w2 ⟨v, rfl, o2, b2⟩
  obtain ⟨ad2, cap2, rfl, r2, d2⟩ := Reads.own o2 (hi8_bd X 8)
  obtain ⟨bL, oL, rfl⟩ := r2.pos (by omega)
  have o6 := owns_below b2 (Nat.le_refl _) O5.out
  have B2 := hT.trans (b2.mono hT.size)
  have R2 := hid r2
  clear o2 d2 r2 b2 O5
  go_wp2_with (at_builtin; refine wpList_append_own _ rfl _ _ 22 rfl w.heap.size 5 i0 (.int .u8 0) 1 1 Try.underlying22 hi hz0 hz1 hz2 rfl (by decide) _ _ _ rfl o6 ⟨bL, oL, none⟩ 8 cap2 (bys (hi8 X 8)) rfl ?k2 R2.out.news (bys_one _) ?k4 ?k5 ?k6 ?_)
  case k2 => rw [bys_length, hi8_length]
  case k4 => unfold maxLen; omega
  case k5 => omega
  case k6 => exact B2.size
  intro v7 w7 o7 g7 _
  have B7 : Below w.heap.size w w7 := B2.grown g7 B2.size (fun k hk => (o6.lt k hk).1)
  have O7 := hid o7
  clear o7 g7 o6
  go_wp2_with fail
  go_ret
  exact ⟨_, rfl, by have := O7.out; simpa [bys] using this, B7⟩

set_option maxRecDepth 100000 in
set_option maxHeartbeats 3200000 in
theorem spec_l3bytes_text (N : Int) (f : Nat) {ad : Option Addr} {n : Nat} (cap B : Nat) (hnil : ad = none → cap = 0) {zs : List Int} {w : World} (h : Reads w ad n zs) (hn : n ≤ 2097152) :
    Calls Try.prog 92 #[.agg #[.int .i64 3, .int .i64 N, .float .f64 f, .slice ad n cap], .int .u64 B] w fun e w' => ∃ v, e = .returned v ∧ w'.ownsRow w.heap.size 5 1 v (1 + n) (bys ([3] ++ zs)) ∧ Below w.heap.size w w' := by
  obtain ⟨i0, hi, hz0, hz1, hz2⟩ := info_parts Try.info5
  have hl := h.len
  have z1 := alloc_size w (.cells #[.int .i64 3, .int .i64 N, .float .f64 f, .slice ad n cap] 26)
  have o5 := World.ownsRow_lit (base := w.heap.size) (e := 5) (size := 1) (w.alloc (.cells #[.int .i64 3, .int .i64 N, .float .f64 f, .slice ad n cap] 26)) #[.int .u8 3] 1 (by omega) (by unfold maxLen; omega) rfl
  have hT := two w (.cells #[.int .i64 3, .int .i64 N, .float .f64 f, .slice ad n cap] 26) (.cells #[.int .u8 3] 5)
  have r2 := h.below hT (Nat.le_refl _)
  rw [z1] at o5
  have zz := hT.size
  have O5 := hid o5
  have R2 := hid r2
  have HT := hid hT
  have ZZ := hid zz
  clear o5 z1 r2 hT zz
  rcases hc : ad with _ | a
  · subst hc
    obtain rfl := hnil rfl
    obtain rfl : n = 0 := by
      rcases h.cells with h0 | ⟨b, off, e, _⟩
      · exact h0
      · cases e
    obtain rfl : zs = [] := List.eq_nil_of_length_eq_zero hl
    clear h
    go_enter Try.func92, Try.ntmps92
    go_wp2_with (at_builtin; refine wpList_append_own_none rfl _ _ 22 rfl w.heap.size 5 i0 1 Try.underlying22 hi _ _ _ rfl O5.out rfl ?_)
    go_ret
    exact ⟨_, rfl, by have := O5.out; simpa [bys] using this, HT.out⟩
  · subst hc
    clear h
    go_enter Try.func92, Try.ntmps92
    go_wp2_with (at_builtin; refine wpList_append_own _ rfl _ _ 22 rfl w.heap.size 5 i0 (.int .u8 0) 1 1 Try.underlying22 hi hz0 hz1 hz2 rfl (by decide) _ _ _ rfl O5.out a n cap (bys zs) rfl ?k2 R2.out.news (bys_one _) ?k4 ?k5 ?k6 ?_)
    case k2 => simp [bys_length, hl]
    case k4 => unfold maxLen; omega
    case k5 => omega
    case k6 => omega
    intro v7 w7 o7 g7 _
    have B7 : Below w.heap.size w w7 := HT.out.grown g7 ZZ.out (fun k hk => (O5.out.lt k hk).1)
    have O7 := hid o7
    clear o7 g7
    go_wp2_with fail
    go_ret
    exact ⟨_, rfl, by have := O7.out; simpa [bys] using this, B7⟩
end Go.Proofs.Ytlapfmfaammheaa
/- The contract of the specification's KeyBytes. Conditions: texts of at most 2^21 bytes. -/


namespace Go.Proofs.Ytlapfmfaammheaa
open Go.RowKit

/-- A key's bytes. -/
def keyB (K N : Int) (f n : Nat) (zs : List Int) : List Int := if okK K N f n = true then bytesI K N (frank f) zs else []

set_option maxRecDepth 100000 in
set_option maxHeartbeats 3200000 in
theorem spec_l3bytes (K N : Int) (f B : Nat) {ad : Option Addr} {n : Nat} (cap : Nat) (hnil : ad = none → cap = 0) {zs : List Int} {w : World} (h : Reads w ad n zs) (hn : n ≤ 2097152) (hN0 : -9223372036854775808 ≤ N) (hN1 : N ≤ 9223372036854775807) (hB : B < 18446744073709551616) (hK : K = 1 ∨ K = 2 ∨ K = 3) :
    Calls Try.prog 92 #[.agg #[.int .i64 K, .int .i64 N, .float .f64 f, .slice ad n cap], .int .u64 B] w fun e w' => ∃ v, e = .returned v ∧ w'.ownsRow w.heap.size 5 1 v (bytesI K N B zs).length (bys (bytesI K N B zs)) ∧ Below w.heap.size w w' := by
  rcases hK with rfl | rfl | rfl
  · have e : bytesI 1 N B zs = [1] ++ hi8 (N + 9223372036854775808).toNat 8 := by rw [bytesI, if_pos rfl]
    have hl : ([1] ++ hi8 (N + 9223372036854775808).toNat 8 : List Int).length = 9 := by simp [hi8_length]
    rw [e, hl]
    exact spec_l3bytes_int N hN0 hN1 f ad n cap B w
  · have e : bytesI 2 N B zs = [2] ++ hi8 B 8 := by rw [bytesI, if_neg (by decide), if_pos rfl]
    have hl : ([2] ++ hi8 B 8 : List Int).length = 9 := by simp [hi8_length]
    rw [e, hl]
    exact spec_l3bytes_float N f ad n cap B hB w
  · have e : bytesI 3 N B zs = [3] ++ zs := by rw [bytesI, if_neg (by decide), if_neg (by decide)]
    have hl : ([3] ++ zs : List Int).length = 1 + n := by simp [h.len]; omega
    rw [e, hl]
    exact spec_l3bytes_text N f cap B hnil h hn

set_option maxRecDepth 100000 in
set_option maxHeartbeats 3200000 in
theorem spec_KeyBytes (K N : Int) (f : Nat) {ad : Option Addr} {n : Nat} (cap : Nat) (hnil : ad = none → cap = 0) {zs : List Int} {w : World} (h : Reads w ad n zs) (hn : n ≤ 2097152) (hN0 : -9223372036854775808 ≤ N) (hN1 : N ≤ 9223372036854775807) (hf : f < 18446744073709551616) :
    Calls Try.prog 68 #[.agg #[.int .i64 K, .int .i64 N, .float .f64 f, .slice ad n cap]] w fun e w' => ∃ v, e = .returned v ∧ w'.ownsRow w.heap.size 5 1 v (keyB K N f n zs).length (bys (keyB K N f n zs)) ∧ Below w.heap.size w w' := by
  have hA : Below w.heap.size w (w.alloc (.cells #[.int .i64 K, .int .i64 N, .float .f64 f, .slice ad n cap] 26)) := (Below.refl _ _).alloc (Nat.le_refl _) _
  have hX := Box.new w K N f ad n cap 26
  have h0 := h.below hA (Nat.le_refl _)
  have z1 := alloc_size w (.cells #[.int .i64 K, .int .i64 N, .float .f64 f, .slice ad n cap] 26)
  have hI := spec_KeyOk K N f ad n cap hf hn
  by_cases hok : okK K N f n = true
  · have e : keyB K N f n zs = bytesI K N (frank f) zs := by rw [keyB, if_pos hok]
    rw [e]
    rw [hok] at hI
    have hK : K = 1 ∨ K = 2 ∨ K = 3 := by
      simp only [okK, okI, Bool.and_eq_true, decide_eq_true_eq] at hok
      omega
    clear e
    go_enter Try.func68, Try.ntmps68
    go_wp2_with fail
    refine (hI _).mono ?_
    rintro e w1 ⟨rfl, b1⟩
    have B1 := hA.trans (b1.mono hA.size)
    obtain ⟨c0, c1, c2, c3⟩ := hX.below b1 (by omega)
    have h1 := hid (h0.below b1 (Nat.le_refl _))
    have hr := hid (spec_FloatRank f hf)
    have hfl := frank_lt f hf
    have HB := hid (fun (W : World) (hW : Reads W ad n zs) => spec_l3bytes K N f (frank f) cap hnil hW hn hN0 hN1 hfl hK)
    have HB1 := hid B1
    have X1 := hid (hX.below b1 (by omega))
    have ZZ := hid (show w.heap.size < w1.heap.size by have := b1.size; omega)
    clear hA b1 B1 hX h0 z1 hI h hK hok hnil
    go_wp2_with fail
    go_region_held3 (fun W => W.cell? ⟨w.heap.size, 0, none⟩ = some (.int .i64 K) ∧ W.cell? ⟨w.heap.size, 1, none⟩ = some (.int .i64 N) ∧ W.cell? ⟨w.heap.size, 2, none⟩ = some (.float .f64 f) ∧ W.cell? ⟨w.heap.size, 3, none⟩ = some (.slice ad n cap)) (first | exact ⟨k0, k1, k2, k3⟩ | exact ⟨by simpa using c0, by simpa using c1, by simpa using c2, by simpa using c3⟩) (first
      | (go_at_call 93; refine (hr.out _).mono ?_; rintro e w2 ⟨rfl, rfl⟩)
      | (go_at_call 92; refine (HB.out _ (h1.out.below ((Still.drewN w1 _).below _) (Nat.le_refl _))).mono ?_; rintro e w3 ⟨v, rfl, o3, b3⟩; obtain ⟨k0, k1, k2, k3⟩ := (X1.out.below ((Still.drewN w1 _).below w1.heap.size) ZZ.out).below b3 ZZ.out))
    have B3 : Below w.heap.size w w3 := (HB1.out.trans ((Still.drewN w1 _).below _)).trans (b3.mono (by have := ZZ.out; show w.heap.size ≤ w1.heap.size; omega))
    have O3 := hid (owns_base (base' := w.heap.size) o3 (by have := ZZ.out; show w.heap.size ≤ w1.heap.size; omega))
    clear o3 b3
    go_wp2_with fail
    go_ret
    exact ⟨_, rfl, O3.out, B3⟩
  · have e : keyB K N f n zs = [] := by rw [keyB, if_neg hok]
    have hok' : okK K N f n = false := by simpa using hok
    rw [e]
    rw [hok'] at hI
    go_enter Try.func68, Try.ntmps68
    go_wp2_with fail
    refine (hI _).mono ?_
    rintro e w1 ⟨rfl, b1⟩
    have B1 := hA.trans (b1.mono hA.size)
    clear hA b1 hX h0 z1
    go_wp2_with fail
    go_ret
    exact ⟨_, rfl, World.ownsRow_nil _ _ _ _, B1⟩
end Go.Proofs.Ytlapfmfaammheaa
/- Values' bytes, bytes read low and high, the bounds of keys' and values' bytes: four texts in one. -/

section
namespace Go.Proofs.Ytlapfmfaammheaa
open Go.RowKit

/-- A value's bytes. -/
def valB (K N : Int) (f n : Nat) (zs : List Int) : List Int := if okI K N f n = true ∧ K ≠ 0 then bytesI K N (fbits f) zs else []

set_option maxRecDepth 100000 in
set_option maxHeartbeats 3200000 in
theorem spec_ValueBytes (K N : Int) (f : Nat) {ad : Option Addr} {n : Nat} (cap : Nat) (hnil : ad = none → cap = 0) {zs : List Int} {w : World} (h : Reads w ad n zs) (hn : n ≤ 2097152) (hN0 : -9223372036854775808 ≤ N) (hN1 : N ≤ 9223372036854775807) (hf : f < 18446744073709551616) :
    Calls Try.prog 69 #[.agg #[.int .i64 K, .int .i64 N, .float .f64 f, .slice ad n cap]] w fun e w' => ∃ v, e = .returned v ∧ w'.ownsRow w.heap.size 5 1 v (valB K N f n zs).length (bys (valB K N f n zs)) ∧ Below w.heap.size w w' := by
  have hA : Below w.heap.size w (w.alloc (.cells #[.int .i64 K, .int .i64 N, .float .f64 f, .slice ad n cap] 26)) := (Below.refl _ _).alloc (Nat.le_refl _) _
  have hX := Box.new w K N f ad n cap 26
  have h0 := h.below hA (Nat.le_refl _)
  have z1 := alloc_size w (.cells #[.int .i64 K, .int .i64 N, .float .f64 f, .slice ad n cap] 26)
  have hI := spec_ItemOk K N f ad n cap hf hn
  by_cases hok : okI K N f n = true ∧ K ≠ 0
  · have e : valB K N f n zs = bytesI K N (fbits f) zs := by rw [valB, if_pos hok]
    rw [e]
    obtain ⟨hok1, hok2⟩ := hok
    rw [hok1] at hI
    have q : (K == 0) = false := beq_eq_false_iff_ne.2 hok2
    have hK : K = 1 ∨ K = 2 ∨ K = 3 := by
      simp only [okI, decide_eq_true_eq] at hok1
      omega
    clear e
    go_enter Try.func69, Try.ntmps69
    go_wp2_with fail
    refine (hI _).mono ?_
    rintro e w1 ⟨rfl, b1⟩
    have B1 := hA.trans (b1.mono hA.size)
    obtain ⟨c0, c1, c2, c3⟩ := hX.below b1 (by omega)
    have h1 := hid (h0.below b1 (Nat.le_refl _))
    have hr := hid (spec_FloatBits f hf)
    have hfl := fbits_lt f hf
    have HB := hid (fun (W : World) (hW : Reads W ad n zs) => spec_l3bytes K N f (fbits f) cap hnil hW hn hN0 hN1 hfl hK)
    have HB1 := hid B1
    have X1 := hid (hX.below b1 (by omega))
    have ZZ := hid (show w.heap.size < w1.heap.size by have := b1.size; omega)
    clear hA b1 B1 hX h0 z1 hI h hK hok1 hok2 hnil
    go_wp2_with fail
    go_region_held3 (fun W => W.cell? ⟨w.heap.size, 0, none⟩ = some (.int .i64 K) ∧ W.cell? ⟨w.heap.size, 1, none⟩ = some (.int .i64 N) ∧ W.cell? ⟨w.heap.size, 2, none⟩ = some (.float .f64 f) ∧ W.cell? ⟨w.heap.size, 3, none⟩ = some (.slice ad n cap)) (first | exact ⟨k0, k1, k2, k3⟩ | exact ⟨by simpa using c0, by simpa using c1, by simpa using c2, by simpa using c3⟩) (first
      | (go_at_call 21; refine (hr.out _).mono ?_; rintro e w2 ⟨rfl, rfl⟩)
      | (go_at_call 92; refine (HB.out _ (h1.out.below ((Still.drewN w1 _).below _) (Nat.le_refl _))).mono ?_; rintro e w3 ⟨v, rfl, o3, b3⟩; obtain ⟨k0, k1, k2, k3⟩ := (X1.out.below ((Still.drewN w1 _).below w1.heap.size) ZZ.out).below b3 ZZ.out))
    have B3 : Below w.heap.size w w3 := (HB1.out.trans ((Still.drewN w1 _).below _)).trans (b3.mono (by have := ZZ.out; show w.heap.size ≤ w1.heap.size; omega))
    have O3 := hid (owns_base (base' := w.heap.size) o3 (by have := ZZ.out; show w.heap.size ≤ w1.heap.size; omega))
    clear o3 b3
    go_wp2_with fail
    go_ret
    exact ⟨_, rfl, O3.out, B3⟩
  · have e : valB K N f n zs = [] := by rw [valB, if_neg hok]
    rw [e]
    clear e
    by_cases hok1 : okI K N f n = true
    · rw [hok1] at hI
      have q : (K == 0) = true := beq_iff_eq.2 (Classical.byContradiction fun e => hok ⟨hok1, e⟩)
      go_enter Try.func69, Try.ntmps69
      go_wp2_with fail
      refine (hI _).mono ?_
      rintro e w1 ⟨rfl, b1⟩
      have B1 := hA.trans (b1.mono hA.size)
      obtain ⟨c0, c1, c2, c3⟩ := hX.below b1 (by omega)
      clear hA b1 hX h0 z1
      go_wp2_with fail
      go_ret
      exact ⟨_, rfl, World.ownsRow_nil _ _ _ _, B1⟩
    · have hok' : okI K N f n = false := by simpa using hok1
      rw [hok'] at hI
      go_enter Try.func69, Try.ntmps69
      go_wp2_with fail
      refine (hI _).mono ?_
      rintro e w1 ⟨rfl, b1⟩
      have B1 := hA.trans (b1.mono hA.size)
      clear hA b1 hX h0 z1
      go_wp2_with fail
      go_ret
      exact ⟨_, rfl, World.ownsRow_nil _ _ _ _, B1⟩
end Go.Proofs.Ytlapfmfaammheaa
end

section
namespace Go.Proofs.Ytlapfmfaammheaa
open Go.RowKit

/-- The number that bytes are, modulo 2^64. -/
def low (zs : List Int) : Nat := zs.foldl (fun x b => (x * 256 + b.toNat) % 18446744073709551616) 0
theorem low_lt : ∀ (zs : List Int) (x : Nat), x < 18446744073709551616 → zs.foldl (fun x b => (x * 256 + b.toNat) % 18446744073709551616) x < 18446744073709551616
  | [], _, h => h
  | b :: zs, x, _ => low_lt zs _ (Nat.mod_lt _ (by omega))
theorem low_step (zs : List Int) (k : Nat) (h : k < zs.length) : low (zs.take (k + 1)) = (low (zs.take k) * 256 + (zs.getD k 0).toNat) % 18446744073709551616 := by
  unfold low
  rw [List.take_add_one, List.getElem?_eq_getElem h, Option.toList_some, List.foldl_append]
  simp [List.getD, h]
theorem or_shl (x b : Nat) (hb : b < 256) : bits .or .u64 (IntKind.u64.wrap ((x : Int) * 256)) (b : Int) = (((x * 256 + b) % 18446744073709551616 : Nat) : Int) := by
  have e : IntKind.u64.wrap ((x : Int) * 256) = ((x * 256 % 18446744073709551616 : Nat) : Int) := by simp [IntKind.wrap, IntKind.bits, IntKind.signed]
  rw [e, u64_or_nat _ _ (Nat.mod_lt _ (by omega)) (by omega), nat_join 8 _ _ (by omega) (by omega)]
  congr 1
  omega

set_option maxRecDepth 100000 in
set_option maxHeartbeats 1600000 in
theorem spec_l3low {ad : Option Addr} {n : Nat} (cap : Nat) {zs : List Int} {w : World} (h : Reads w ad n zs) (hn : n ≤ 2097152) :
    Calls Try.prog 94 #[.slice ad n cap] w fun e w' => e = .returned (.int .u64 (low zs : Int)) ∧ w' = w := by
  have hl := h.len
  go_enter Try.func94, Try.ntmps94
  go_wp2
  go_loopw [3, 4] (fun s i wr => ∃ k x : Nat, k ≤ n ∧ s = .int .u64 (x : Int) ∧ i = .int .i64 k ∧ x < 18446744073709551616 ∧ Hid (x = low (zs.take k)) ∧ wr = w) (fun _ i _ => n - (intOf i).toNat)
  case atStart => exact ⟨0, 0, Nat.zero_le _, rfl, rfl, by omega, hid (by rw [List.take_zero]; rfl), rfl⟩
  case round =>
    obtain ⟨k, x, hk, rfl, rfl, hx, HX, rfl⟩ := hrel
    by_cases hlt : k < n
    · rcases h.cells with h0 | ⟨b, off, rfl, hc⟩
      · omega
      have c1 := hc k hlt
      have hb := h.bd k
      have HS := hid (low_step zs k (by omega))
      obtain ⟨y, hy⟩ := Int.eq_ofNat_of_zero_le hb.1
      have HY := hid hy
      rw [hy] at c1 hb
      have ho := or_shl x y (by omega)
      have hlt' : (k : Int) < (n : Int) := by omega
      have hk0 : (0 : Int) ≤ (k : Int) := by omega
      have hxx : (x * 256 + y) % 18446744073709551616 < 18446744073709551616 := Nat.mod_lt _ (by omega)
      obtain ⟨q, hq⟩ : ∃ q, Hid ((x * 256 + y) % 18446744073709551616 = q) := ⟨_, rfl⟩
      have hq' := hq.out
      rw [hq'] at ho hxx
      clear hc hy hq'
      go_wp2
      go_roundw
      case rel => exact ⟨k + 1, q, by omega, rfl, by go_num, hxx, hid (by rw [HS.out, ← HX.out, HY.out, Int.toNat_natCast, hq.out]), by first | trivial | rfl⟩
      case measure => simp [intOf]; omega
    · have hk8 : k = n := by omega
      have HK := hid hk8
      have hge : ¬ (k : Int) < (n : Int) := by omega
      go_wp2
      go_ret
      exact ⟨by rw [HX.out, HK.out, List.take_of_length_le (by omega)]; rfl, rfl⟩
end Go.Proofs.Ytlapfmfaammheaa
end

section
namespace Go.Proofs.Ytlapfmfaammheaa
open Go.RowKit

theorem own_nil {w : World} {base : Nat} {e : TypeId} {s n m cap : Nat} {ad : Option Addr} {xs : List Value} (h : w.ownsRow base e s (.slice ad n cap) m xs) : ad = none → cap = 0 := by
  intro hn
  rcases h.2 with ⟨h1, _⟩ | ⟨g, c, cur, h1, _⟩
  · exact (Value.slice.inj h1).2.2
  · rw [hn] at h1; cases (Value.slice.inj h1).1

theorem bytesI_bd (K N : Int) (B : Nat) (zs : List Int) (h0 : 0 ≤ K) (h1 : K ≤ 255) (hz : ∀ i, 0 ≤ zs.getD i 0 ∧ zs.getD i 0 ≤ 255) (hl : zs.length ≤ 1048576) : (∀ i, 0 ≤ (bytesI K N B zs).getD i 0 ∧ (bytesI K N B zs).getD i 0 ≤ 255) ∧ (bytesI K N B zs).length ≤ 2097152 := by
  have key : ∀ ts : List Int, (∀ i, 0 ≤ ts.getD i 0 ∧ ts.getD i 0 ≤ 255) → ts.length ≤ 1048576 → (∀ i, 0 ≤ ([K] ++ ts).getD i 0 ∧ ([K] ++ ts).getD i 0 ≤ 255) ∧ ([K] ++ ts).length ≤ 2097152 := by
    intro ts h hl
    refine ⟨fun i => ?_, by simp; omega⟩
    match i with
    | 0 => exact ⟨h0, h1⟩
    | i + 1 => exact h i
  unfold bytesI
  apply key
  · intro i
    split
    · exact hi8_bd _ _ i
    · split
      · exact hi8_bd _ _ i
      · exact hz i
  · split
    · rw [hi8_length]; omega
    · split
      · rw [hi8_length]; omega
      · exact hl

theorem nil_bd : (∀ i, 0 ≤ ([] : List Int).getD i 0 ∧ ([] : List Int).getD i 0 ≤ 255) ∧ ([] : List Int).length ≤ 2097152 := ⟨fun i => by simp, by simp⟩

theorem okI_K {K N : Int} {f n : Nat} (h : okI K N f n = true) : 0 ≤ K ∧ K ≤ 3 := by
  have := of_decide_eq_true h
  omega
theorem okK_I {K N : Int} {f n : Nat} (h : okK K N f n = true) : okI K N f n = true ∧ K ≠ 0 ∧ f ≠ 9223372036854775808 := by
  unfold okK at h
  rw [Bool.and_eq_true] at h
  exact ⟨h.1, of_decide_eq_true h.2⟩

theorem keyB_bd {K N : Int} {f n : Nat} {zs RZ : List Int} (hR : keyB K N f n zs = RZ) (hz : ∀ i, 0 ≤ zs.getD i 0 ∧ zs.getD i 0 ≤ 255) (hl : zs.length ≤ 1048576) : (∀ i, 0 ≤ RZ.getD i 0 ∧ RZ.getD i 0 ≤ 255) ∧ RZ.length ≤ 2097152 := by
  subst hR
  unfold keyB
  split
  · rename_i h
    have hk := okI_K (okK_I h).1
    exact bytesI_bd K N _ zs hk.1 (by omega) hz hl
  · exact nil_bd
theorem valB_bd {K N : Int} {f n : Nat} {zs RZ : List Int} (hR : valB K N f n zs = RZ) (hz : ∀ i, 0 ≤ zs.getD i 0 ∧ zs.getD i 0 ≤ 255) (hl : zs.length ≤ 1048576) : (∀ i, 0 ≤ RZ.getD i 0 ∧ RZ.getD i 0 ≤ 255) ∧ RZ.length ≤ 2097152 := by
  subst hR
  unfold valB
  split
  · rename_i h
    have hk := okI_K h.1
    exact bytesI_bd K N _ zs hk.1 (by omega) hz hl
  · exact nil_bd

end Go.Proofs.Ytlapfmfaammheaa
end

section
namespace Go.Proofs.Ytlapfmfaammheaa
open Go.RowKit

theorem eight {zs : List Int} (h : zs.length = 8) : ∃ a b c d e f g i, zs = [a, b, c, d, e, f, g, i] := by
  match zs, h with
  | [a, b, c, d, e, f, g, i], _ => exact ⟨a, b, c, d, e, f, g, i, rfl⟩

theorem low_eight (a b c d e f g i : Nat) (ha : a < 256) (hb : b < 256) (hc : c < 256) (hd : d < 256) (he : e < 256) (hf : f < 256) (hg : g < 256) (hi : i < 256) :
    low [(a : Int), b, c, d, e, f, g, i] = a * 72057594037927936 + b * 281474976710656 + c * 1099511627776 + d * 4294967296 + e * 16777216 + f * 65536 + g * 256 + i := by
  simp only [low, List.foldl_cons, List.foldl_nil, Int.toNat_natCast]
  omega

theorem hi8_low {zs : List Int} (h : zs.length = 8) (hB : ∀ i, 0 ≤ zs.getD i 0 ∧ zs.getD i 0 ≤ 255) : hi8 (low zs) 8 = zs := by
  obtain ⟨a, b, c, d, e, f, g, i, rfl⟩ := eight h
  have b0 := hB 0
  have b1 := hB 1
  have b2 := hB 2
  have b3 := hB 3
  have b4 := hB 4
  have b5 := hB 5
  have b6 := hB 6
  have b7 := hB 7
  simp only [List.getD_cons_zero, List.getD_cons_succ] at b0 b1 b2 b3 b4 b5 b6 b7
  obtain ⟨a, rfl⟩ := Int.eq_ofNat_of_zero_le b0.1
  obtain ⟨b, rfl⟩ := Int.eq_ofNat_of_zero_le b1.1
  obtain ⟨c, rfl⟩ := Int.eq_ofNat_of_zero_le b2.1
  obtain ⟨d, rfl⟩ := Int.eq_ofNat_of_zero_le b3.1
  obtain ⟨e, rfl⟩ := Int.eq_ofNat_of_zero_le b4.1
  obtain ⟨f, rfl⟩ := Int.eq_ofNat_of_zero_le b5.1
  obtain ⟨g, rfl⟩ := Int.eq_ofNat_of_zero_le b6.1
  obtain ⟨i, rfl⟩ := Int.eq_ofNat_of_zero_le b7.1
  rw [low_eight a b c d e f g i (by omega) (by omega) (by omega) (by omega) (by omega) (by omega) (by omega) (by omega)]
  have hr : List.range 8 = [0, 1, 2, 3, 4, 5, 6, 7] := by decide
  rw [hi8, hr]
  simp only [List.map_cons, List.map_nil, hb]
  simp only [show 8 * (7 - 0) = 56 from rfl, show 8 * (7 - 1) = 48 from rfl, show 8 * (7 - 2) = 40 from rfl, show 8 * (7 - 3) = 32 from rfl, show 8 * (7 - 4) = 24 from rfl, show 8 * (7 - 5) = 16 from rfl, show 8 * (7 - 6) = 8 from rfl, show 8 * (7 - 7) = 0 from rfl, List.cons.injEq, and_true]
  refine ⟨?_, ?_, ?_, ?_, ?_, ?_, ?_, ?_⟩ <;> omega

theorem low_hi8 (x : Nat) (hx : x < 18446744073709551616) : low (hi8 x 8) = x := by
  have hr : List.range 8 = [0, 1, 2, 3, 4, 5, 6, 7] := by decide
  rw [hi8, hr]
  simp only [List.map_cons, List.map_nil, hb]
  rw [low_eight _ _ _ _ _ _ _ _ (by omega) (by omega) (by omega) (by omega) (by omega) (by omega) (by omega) (by omega)]
  simp only [show 8 * (7 - 0) = 56 from rfl, show 8 * (7 - 1) = 48 from rfl, show 8 * (7 - 2) = 40 from rfl, show 8 * (7 - 3) = 32 from rfl, show 8 * (7 - 4) = 24 from rfl, show 8 * (7 - 5) = 16 from rfl, show 8 * (7 - 6) = 8 from rfl, show 8 * (7 - 7) = 0 from rfl]
  omega
end Go.Proofs.Ytlapfmfaammheaa
end
