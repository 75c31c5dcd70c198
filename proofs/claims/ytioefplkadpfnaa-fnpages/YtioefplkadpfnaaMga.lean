/- Texts of this proof in one: Base Help Dk Jt Al Pa Pb Pc Rk Rk2 Rk3 Ps Pf Pp Pu Pv Pw Oty Lv Pg Pk Pz Pm7 Num Pq Val. -/
import Derived.WalkKit
import Derived.WalkSpells
import Derived.Laws.CopyOwn
import Derived.Deep.Draws
import Derived.OpenShut
import Derived.Test.YtioefplkadpfnaaRows
import Derived.Deep.QuietTactic
import Derived.BigQuiet
import Derived.Laws.AppendOwnNone
import Derived.Laws.Tables
import Derived.Deep.RegionHeld3
import Derived.Deep.SlicePairs
import Derived.Deep.Matrix
import Derived.Lib.SmallJoins
import Derived.Deep.AppendLies
import Derived.Deep.LoopGhost
/- Plain notions for the proofs of this seat: what a slice of bytes reads as, in a world; how that is kept. No statement of its own; no conditions. -/





namespace Go.Proofs.Ytioefplkadpfnaa
open Go.RowKit

/-- The byte cells of a list of numbers. -/
def bys (zs : List Int) : List Value := zs.map (Value.int .u8)
theorem bys_length (zs : List Int) : (bys zs).length = zs.length := by simp [bys]

/-- A slice of n bytes at 'ad' reads, in the world w, as the numbers zs. -/
structure Reads (w : World) (ad : Option Addr) (n : Nat) (zs : List Int) : Prop where
  len : zs.length = n
  cells : n = 0 ∨ ∃ b off, ad = some ⟨b, off, none⟩ ∧ ∀ i, i < n → w.cell? ⟨b, off + i, none⟩ = some (.int .u8 (zs.getD i 0))
  bd : ∀ i, 0 ≤ zs.getD i 0 ∧ zs.getD i 0 ≤ 255

theorem Reads.below {w w' : World} {ad : Option Addr} {n : Nat} {zs : List Int} (h : Reads w ad n zs) {B : Nat} (hb : Below B w w') (hB : w.heap.size ≤ B) : Reads w' ad n zs := by
  refine ⟨h.len, ?_, h.bd⟩
  rcases h.cells with h0 | ⟨b, off, rfl, hc⟩
  · exact .inl h0
  · refine .inr ⟨b, off, rfl, fun i hi => ?_⟩
    have hc' := hc i hi
    have := World.block_lt_of_cell? w _ hc'
    rw [hb.cell (p := ⟨b, off + i, none⟩) (by simp at this ⊢; omega)]
    exact hc'

/-- A row of the call's own, read. -/
theorem Reads.own {w : World} {base : Nat} {v : Value} {n : Nat} {zs : List Int} (h : w.ownsRow base 5 1 v n (bys zs)) (hbd : ∀ i, 0 ≤ zs.getD i 0 ∧ zs.getD i 0 ≤ 255) :
    ∃ ad cap, v = .slice ad n cap ∧ Reads w ad n zs ∧ (ad = none ∨ ∃ g, ad = some ⟨g, 0, none⟩ ∧ base ≤ g ∧ g < w.heap.size) := by
  have hl : zs.length = n := by have := h.1; simpa [bys] using this
  rcases h.2 with ⟨rfl, rfl⟩ | ⟨g, cap, cur, rfl, hb, hg, hnc, hcm, hcs, htake⟩
  · exact ⟨none, 0, rfl, ⟨hl, .inl rfl, hbd⟩, .inl rfl⟩
  · refine ⟨_, cap, rfl, ⟨hl, .inr ⟨g, 0, rfl, fun i hi => ?_⟩, hbd⟩, .inr ⟨g, rfl, hb, (Array.getElem?_eq_some_iff.1 hg).1⟩⟩
    rw [Nat.zero_add, h.cellAt i (by omega)]
    simp [bys, hl, hi]

/-- A fact kept from the walk. -/
theorem hid {p : Prop} (h : p) : Hid p := h

/-- Nothing in memory has turned (draws alone). -/
structure Still (w w' : World) : Prop where
  os : w'.os = w.os
  tape : w'.tape = w.tape
  output : w'.output = w.output
  heap : w'.heap = w.heap
theorem Still.refl (w : World) : Still w w := ⟨rfl, rfl, rfl, rfl⟩
theorem Still.trans {a b c : World} (h : Still a b) (k : Still b c) : Still a c := ⟨k.os.trans h.os, k.tape.trans h.tape, k.output.trans h.output, k.heap.trans h.heap⟩
theorem Still.drewN (w : World) (n : Nat) : Still w (w.drewN n) := ⟨rfl, rfl, rfl, rfl⟩
theorem Still.drew (w : World) : Still w w.drew := ⟨rfl, rfl, rfl, rfl⟩
theorem Still.below {w w' : World} (h : Still w w') (B : Nat) : Below B w w' := ⟨h.os, h.tape, h.output, by rw [h.heap]; exact Nat.le_refl _, fun k _ => by rw [h.heap]⟩
theorem Still.size {w w' : World} (h : Still w w') : w'.heap.size = w.heap.size := by rw [h.heap]
theorem Still.cell {w w' : World} (h : Still w w') (a : Addr) : w'.cell? a = w.cell? a := by simp [World.cell?, h.heap]
theorem Still.frozen {w w' : World} (h : Still w w') (a : Addr) : w'.frozen? a = w.frozen? a := by simp [World.frozen?, h.heap]
theorem Still.reads {w w' : World} (h : Still w w') {ad : Option Addr} {n : Nat} {zs : List Int} (hr : Reads w ad n zs) : Reads w' ad n zs := hr.below (h.below w.heap.size) (Nat.le_refl _)
theorem Still.owns {w w' : World} (h : Still w w') {base : Nat} {e : TypeId} {s : Nat} {v : Value} {n : Nat} {xs : List Value} (ho : w.ownsRow base e s v n xs) : w'.ownsRow base e s v n xs := by
  unfold World.ownsRow at ho ⊢; rw [h.heap]; exact ho

theorem owns_below {w w' : World} {B : Nat} (hb : Below B w w') (hB : w.heap.size ≤ B) {base : Nat} {e : TypeId} {s : Nat} {v : Value} {n : Nat} {xs : List Value} (ho : w.ownsRow base e s v n xs) : w'.ownsRow base e s v n xs := by
  refine ⟨ho.1, ?_⟩
  rcases ho.2 with hn | ⟨g, cap, cur, rfl, hbg, hg, rest⟩
  · exact .inl hn
  · exact .inr ⟨g, cap, cur, rfl, hbg, by rw [hb.block g (by have := (Array.getElem?_eq_some_iff.1 hg).1; omega)]; exact hg, rest⟩

/-- Reading is kept while another row is written. -/
theorem Reads.other {w w' : World} {ad : Option Addr} {n : Nat} {zs : List Int} (h : Reads w ad n zs) {row : Option Nat} (hg : w.grownBy w' row) (hne : ∀ a, ad = some a → some a.block ≠ row) : Reads w' ad n zs := by
  refine ⟨h.len, ?_, h.bd⟩
  rcases h.cells with h0 | ⟨b, off, rfl, hc⟩
  · exact .inl h0
  · exact .inr ⟨b, off, rfl, fun i hi => hg.cell (hc i hi) (hne ⟨b, off, none⟩ rfl)⟩

/-- What markByteS writes: k, k + 1 .., as bytes. -/
def marks (k : Int) (n : Nat) : List Int := (List.range n).map fun i => (k + (i : Nat)) % 256
theorem marks_length (k : Int) (n : Nat) : (marks k n).length = n := by simp [marks]
theorem marks_succ (k : Int) (n : Nat) : marks k (n + 1) = marks k n ++ [(k + (n : Nat)) % 256] := by simp [marks, List.range_succ]
theorem marks_at (k : Int) (n i : Nat) (h : i < n) : (marks k n).getD i 0 = (k + (i : Nat)) % 256 := by simp [marks, h]
theorem marks_bd (k : Int) (n i : Nat) : 0 ≤ (marks k n).getD i 0 ∧ (marks k n).getD i 0 ≤ 255 := by
  by_cases h : i < n
  · rw [marks_at k n i h]; omega
  · simp [marks, h]
theorem set_mid (A : List Value) (X : List Value) (j : Nat) (c : Value) (hA : A.length = j) (hX : j < X.length) : (A ++ X.drop j).set j c = (A ++ [c]) ++ X.drop (j + 1) := by
  rw [List.set_append_right _ _ (by omega), hA, Nat.sub_self, List.drop_eq_getElem_cons hX, List.set_cons_zero]; simp

theorem grown_trans {a b c : World} {row : Option Nat} (h : a.grownBy b row) (k : b.grownBy c row) : a.grownBy c row :=
  ⟨k.os.trans h.os, k.tape.trans h.tape, k.output.trans h.output, Nat.le_trans h.size k.size, fun i hi hr => (k.block i (Nat.lt_of_lt_of_le hi h.size) hr).trans (h.block i hi hr)⟩
theorem grown_refl (w : World) (row : Option Nat) : w.grownBy w row := ⟨rfl, rfl, rfl, Nat.le_refl _, fun _ _ _ => rfl⟩
theorem bys_append (a b : List Int) : bys (a ++ b) = bys a ++ bys b := by simp [bys]

/-- Two rows, the second made behind the first. -/
theorem apart_of {ad ad' : Option Addr} {B lo hi n cap : Nat} (h : ad = none ∨ ∃ g, ad = some ⟨g, 0, none⟩ ∧ lo ≤ g ∧ g < B) (h' : ad' = none ∨ ∃ g, ad' = some ⟨g, 0, none⟩ ∧ B ≤ g ∧ g < hi) :
    ∀ a, ad = some a → some a.block ≠ (Value.slice ad' n cap).ownBlock := by
  intro a ha
  rcases h' with rfl | ⟨g', rfl, h1, h2⟩
  · simp [Value.ownBlock]
  · rcases h with rfl | ⟨g, rfl, h3, h4⟩
    · cases ha
    · cases ha; simp [Value.ownBlock]; omega
theorem own_ge {ad : Option Addr} {B hi n cap : Nat} (h : ad = none ∨ ∃ g, ad = some ⟨g, 0, none⟩ ∧ B ≤ g ∧ g < hi) : ∀ k, (Value.slice ad n cap).ownBlock = some k → B ≤ k := by
  intro k hk
  rcases h with rfl | ⟨g, rfl, h1, h2⟩
  · simp [Value.ownBlock] at hk
  · simp [Value.ownBlock] at hk; omega

/-- A slice of bytes that came in, as the row's step tells it, read. -/
theorem reads_in {w : World} {a : Option Addr} {len cap : Nat} {zs : List Int}
    (h : (a = none ∧ len = 0 ∧ cap = 0 ∧ zs = []) ∨ ∃ x, a = some x ∧ len ≤ cap ∧ cap ≤ maxLen ∧ zs.length = cap ∧ (∀ i, i < zs.length → w.cell? (x.add i) = some (.int .u8 (zs.getD i 0))) ∧ ∀ n ∈ zs, (Lit.int .u8 n).wf = true) :
    Reads w a len (zs.take len) := by
  rcases h with ⟨rfl, rfl, rfl, rfl⟩ | ⟨x, rfl, hlc, hm, hz, hc, hwf⟩
  · exact ⟨rfl, .inl rfl, by simp⟩
  · refine ⟨by simp; omega, ?_, ?_⟩
    · by_cases h0 : len = 0
      · exact .inl h0
      · obtain ⟨b, off, rfl, hc'⟩ := ints_at hc (by omega)
        refine .inr ⟨b, off, rfl, fun i hi => ?_⟩
        rw [hc' i (by omega)]
        simp [hi]
    · intro i
      by_cases hi : i < (zs.take len).length
      · rw [List.getD_eq_getElem?_getD, List.getElem?_eq_getElem hi]
        exact bounds_u8 (hwf _ (List.mem_of_mem_take (List.getElem_mem hi)))
      · rw [List.getD_eq_getElem?_getD, List.getElem?_eq_none (by omega)]; simp

theorem len_in {w : World} {a : Option Addr} {len cap : Nat} {zs : List Int} {k : IntKind}
    (h : (a = none ∧ len = 0 ∧ cap = 0 ∧ zs = []) ∨ ∃ x, a = some x ∧ len ≤ cap ∧ cap ≤ maxLen ∧ zs.length = cap ∧ (∀ i, i < zs.length → w.cell? (x.add i) = some (.int k (zs.getD i 0))) ∧ ∀ n ∈ zs, (Lit.int k n).wf = true) :
    len ≤ maxLen := by
  rcases h with ⟨_, rfl, _⟩ | ⟨_, _, h1, h2, _⟩
  · exact Nat.zero_le _
  · exact Nat.le_trans h1 h2

/-- The cells that an append or a copy takes over. -/
theorem Reads.news {w : World} {a : Addr} {n : Nat} {zs : List Int} (h : Reads w (some a) n zs) : ∀ j u, (bys zs)[j]? = some u → w.cell? (a.add j) = some u := by
  intro j u hu
  have hj : j < zs.length := by
    have := (List.getElem?_eq_some_iff.1 hu).1
    simpa [bys] using this
  rcases h.cells with h0 | ⟨b, off, hb, hc⟩
  · have := h.len; omega
  · cases hb
    have e : (⟨b, off, none⟩ : Addr).add j = ⟨b, off + j, none⟩ := by unfold Addr.add; split <;> simp_all
    rw [e, hc j (by have := h.len; omega)]
    simpa [bys, hj] using hu
theorem bys_one (zs : List Int) : ∀ u ∈ bys zs, u.oneCell' = true := by
  intro u hu
  simp only [bys, List.mem_map] at hu
  obtain ⟨x, _, rfl⟩ := hu
  rfl
theorem Reads.pos {w : World} {ad : Option Addr} {n : Nat} {zs : List Int} (h : Reads w ad n zs) (hn : 0 < n) : ∃ b off, ad = some ⟨b, off, none⟩ := by
  rcases h.cells with h0 | ⟨b, off, hb, _⟩
  · omega
  · exact ⟨b, off, hb⟩

theorem getD_bys (zs : List Int) (i : Nat) : (bys zs)[i]? = (zs[i]?).map (Value.int .u8) := by simp [bys]
end Go.Proofs.Ytioefplkadpfnaa
/- The contracts of the law package's helpers: toByteS, eqByteS, markByteS, heldByteS. Conditions: lengths of at most 2^21 where memory is made or counted. -/




namespace Go.Proofs.Ytioefplkadpfnaa
open Go.RowKit

theorem Try.info5 : (Try.prog.info? 5).map (fun i => (i.zero, i.size, i.bytes)) = some (some (.int .u8 0), 1, 1) := by kernel_rfl

theorem set_take_step (zs : List Int) (k : Nat) (hk : k < zs.length) (m : Nat) (hm : m = zs.length) :
    (bys (zs.take k) ++ List.replicate (m - k) (Value.int .u8 0)).set k (.int .u8 (zs.getD k 0)) = bys (zs.take (k + 1)) ++ List.replicate (m - (k + 1)) (Value.int .u8 0) := by
  subst hm
  apply List.ext_getElem?
  intro j
  simp only [bys, List.getElem?_set, List.getElem?_append, List.getElem?_map, List.getElem?_replicate, List.length_map, List.length_take, List.length_append, List.length_replicate, List.getElem?_take]
  by_cases h1 : k = j
  · subst h1
    simp [hk, show min (k + 1) zs.length = k + 1 by omega, show min k zs.length = k by omega, show zs.length - k ≠ 0 by omega]
  · by_cases h2 : j < k
    · simp [h1, show j < min k zs.length by omega, show j < min (k+1) zs.length by omega, show j < k + 1 by omega, h2]
    · by_cases h3 : j < zs.length
      · simp [h1, show ¬ j < min k zs.length by omega, show ¬ j < min (k+1) zs.length by omega, show j - min k zs.length < zs.length - k by omega, show j - min (k+1) zs.length < zs.length - (k+1) by omega]
      · simp [h1, show ¬ j < min k zs.length by omega, show ¬ j < min (k+1) zs.length by omega, show ¬ j - min k zs.length < zs.length - k by omega, show ¬ j - min (k+1) zs.length < zs.length - (k+1) by omega]

set_option maxHeartbeats 800000 in
theorem toByteS_pos (b off n cap : Nat) (zs : List Int) (w : World) (hz : zs.length = n) (hn : n ≤ 2097152) (hb : b < w.heap.size)
    (hc : ∀ i, i < n → w.cell? ⟨b, off + i, none⟩ = some (.int .u8 (zs.getD i 0))) :
    Calls Try.prog 41 #[.slice (some ⟨b, off, none⟩) n cap] w fun e w' =>
      e = .returned (.slice (some ⟨w.heap.size, 0, none⟩) n n) ∧ w'.ownsRow w.heap.size 5 1 (.slice (some ⟨w.heap.size, 0, none⟩) n n) n (bys zs) ∧ Below w.heap.size w w' := by
  obtain ⟨i0, hi, hz0, hz1, hz2⟩ := info_parts Try.info5
  go_enter Try.func41, Try.ntmps41
  go_wp2_with (at_make; refine wpList_make_full _ rfl _ _ 22 rfl w.heap.size 5 i0 (.int .u8 0) 1 Try.underlying22 hi hz0 hz1 _ _ _ _ n rfl rfl (by omega) (by omega) ?b2 ?b3 (Nat.le_refl _) ?_)
  case b2 => rw [hz2]; omega
  case b3 => unfold maxLen; omega
  intro w0 hown0 hgrow0
  go_wp2
  go_loopw [4] (fun i wr => ∃ k : Nat, k ≤ n ∧ i = .int .i64 k ∧ wr.ownsRow w.heap.size 5 1 (.slice (some ⟨w.heap.size, 0, none⟩) n n) n (bys (zs.take k) ++ List.replicate (n - k) (Value.int .u8 0)) ∧ Below w.heap.size w wr)
    (fun i _ => n - (intOf i).toNat)
  case atStart =>
    refine ⟨0, Nat.zero_le _, rfl, ?_, (Below.refl _ _).grown hgrow0 (Nat.le_refl _) (fun k h => by cases h)⟩
    rw [toList_madeCells_one] at hown0
    simpa [bys] using hown0
  case round =>
    obtain ⟨k, hk, rfl, hown, hnx⟩ := hrel
    by_cases hlt : k < n
    · have hcx : wr.cell? ⟨b, off + k, none⟩ = some (.int .u8 (zs.getD k 0)) := (hnx.cell (by exact hb)).trans (hc k hlt)
      have hcy : wr.cell? ⟨w.heap.size, k, none⟩ = some (.int .u8 0) := by
        rw [hown.cellAt k (by omega), List.getElem?_append_right (by simp [bys]; omega)]
        simp [bys, hz, Nat.min_eq_left hk, show 0 < n - k by omega]
      have hfr : wr.frozen? ⟨w.heap.size, k, none⟩ = false := hown.frozenAt k
      have R := hown.stored k (.int .u8 (zs.getD k 0))
      rw [set_take_step zs k (by omega) n hz.symm] at R
      have R1 := hid R
      clear R hown
      generalize zs.getD k 0 = c at hcx R1
      go_wp2
      go_roundw
      case rel => exact ⟨k + 1, by omega, by go_num, by simpa using R1.out.1, hnx.setCell (Nat.le_refl _) _⟩
      case measure => simp [intOf]; omega
    · go_wp2
      go_ret
      have hkn : k = n := by omega
      subst hkn
      refine ⟨rfl, ?_, hnx⟩
      rw [List.take_of_length_le (by omega)] at hown
      simpa using hown

set_option maxHeartbeats 800000 in
theorem toByteS_zero (ad : Option Addr) (cap : Nat) (w : World) :
    Calls Try.prog 41 #[.slice ad 0 cap] w fun e w' =>
      e = .returned (.slice (some ⟨w.heap.size, 0, none⟩) 0 0) ∧ w'.ownsRow w.heap.size 5 1 (.slice (some ⟨w.heap.size, 0, none⟩) 0 0) 0 (bys []) ∧ Below w.heap.size w w' := by
  obtain ⟨i0, hi, hz0, hz1, hz2⟩ := info_parts Try.info5
  go_enter Try.func41, Try.ntmps41
  go_wp2_with (at_make; refine wpList_make_full _ rfl _ _ 22 rfl w.heap.size 5 i0 (.int .u8 0) 1 Try.underlying22 hi hz0 hz1 _ _ _ _ 0 rfl rfl (by omega) (by omega) ?b2 ?b3 (Nat.le_refl _) ?_)
  case b2 => rw [hz2]; omega
  case b3 => unfold maxLen; omega
  intro w0 hown0 hgrow0
  have H0 := hid hown0
  clear hown0
  go_wp2
  go_loopw [4] (fun i wr => i = .int .i64 (0 : Nat) ∧ wr = w0) (fun i _ => 0)
  case atStart => exact ⟨rfl, rfl⟩
  case round =>
    obtain ⟨rfl, rfl⟩ := hrel
    go_wp2
    go_ret
    refine ⟨rfl, ?_, (Below.refl _ _).grown hgrow0 (Nat.le_refl _) (fun k h => by cases h)⟩
    have h := H0.out
    simpa [bys, madeCells] using h

theorem toByteS_any {ad : Option Addr} {n : Nat} (cap : Nat) {zs : List Int} {w : World} (h : Reads w ad n zs) (hn : n ≤ 2097152) :
    Calls Try.prog 41 #[.slice ad n cap] w fun e w' =>
      e = .returned (.slice (some ⟨w.heap.size, 0, none⟩) n n) ∧ w'.ownsRow w.heap.size 5 1 (.slice (some ⟨w.heap.size, 0, none⟩) n n) n (bys zs) ∧ Below w.heap.size w w' := by
  obtain ⟨hl, hc, _⟩ := h
  by_cases h0 : n = 0
  · subst h0
    obtain rfl : zs = [] := List.eq_nil_of_length_eq_zero hl
    exact toByteS_zero ad cap w
  · rcases hc with h | ⟨b, off, rfl, hc⟩
    · exact absurd h h0
    · exact toByteS_pos b off n cap zs w hl hn (by have := World.block_lt_of_cell? w _ (hc 0 (by omega)); exact this) hc

set_option maxHeartbeats 800000 in
/-- Two slices that read alike are told alike. -/
theorem eqByteS_pos (b off cap b' off' cap' n : Nat) (zs : List Int) (w : World) (hn : n ≤ 2097152)
    (hc : ∀ i, i < n → w.cell? ⟨b, off + i, none⟩ = some (.int .u8 (zs.getD i 0))) (hc' : ∀ i, i < n → w.cell? ⟨b', off' + i, none⟩ = some (.int .u8 (zs.getD i 0))) :
    Calls Try.prog 37 #[.slice (some ⟨b, off, none⟩) n cap, .slice (some ⟨b', off', none⟩) n cap'] w fun e w' => e = .returned (.bool true) ∧ Still w w' := by
  go_enter Try.func37, Try.ntmps37
  go_wp2
  go_loopw [5] (fun i wr => ∃ k m : Nat, k ≤ n ∧ i = .int .i64 k ∧ wr = w.drewN m) (fun i _ => n - (intOf i).toNat)
  case atStart => exact ⟨0, 0, Nat.zero_le _, rfl, rfl⟩
  case round =>
    obtain ⟨k, m, hk, rfl, rfl⟩ := hrel
    by_cases hlt : k < n
    · have h1 := hc k hlt
      have h2 := hc' k hlt
      generalize zs.getD k 0 = c at h1 h2
      have hlt' : (k : Int) < (n : Int) := by omega
      go_wp2
      go_quiet (fail)
      go_wp2
      go_roundw
      case rel => exact ⟨k + 1, _, by omega, by go_num, rfl⟩
      case measure => simp [intOf]; omega
    · go_wp2
      go_ret
      exact ⟨rfl, Still.drewN _ _⟩

set_option maxHeartbeats 800000 in
theorem eqByteS_zero (ad ad' : Option Addr) (cap cap' : Nat) (w : World) :
    Calls Try.prog 37 #[.slice ad 0 cap, .slice ad' 0 cap'] w fun e w' => e = .returned (.bool true) ∧ Still w w' := by
  go_enter Try.func37, Try.ntmps37
  go_wp2
  go_loopw [5] (fun i wr => i = .int .i64 (0 : Nat) ∧ wr = w) (fun _ _ => 0)
  case atStart => exact ⟨rfl, rfl⟩
  case round =>
    obtain ⟨rfl, rfl⟩ := hrel
    go_wp2
    go_ret
    exact ⟨rfl, Still.refl _⟩

theorem eqByteS_any {ad ad' : Option Addr} {n : Nat} (cap cap' : Nat) {zs : List Int} {w : World} (h : Reads w ad n zs) (h' : Reads w ad' n zs) (hn : n ≤ 2097152) :
    Calls Try.prog 37 #[.slice ad n cap, .slice ad' n cap'] w fun e w' => e = .returned (.bool true) ∧ Still w w' := by
  obtain ⟨hl, hc, _⟩ := h
  obtain ⟨hl', hc', _⟩ := h'
  by_cases h0 : n = 0
  · subst h0; exact eqByteS_zero ad ad' cap cap' w
  · rcases hc with h | ⟨b, off, rfl, hc⟩
    · exact absurd h h0
    rcases hc' with h | ⟨b', off', rfl, hc'⟩
    · exact absurd h h0
    exact eqByteS_pos b off cap b' off' cap' n zs w hn hc hc'

set_option maxHeartbeats 800000 in
theorem markByteS_pos (base g n cap : Nat) (k : Int) (xs : List Value) (w : World) (hn : n ≤ 2097152) (hk0 : 0 ≤ k) (hk1 : k ≤ 1000000000)
    (hown : w.ownsRow base 5 1 (.slice (some ⟨g, 0, none⟩) n cap) n xs) :
    Calls Try.prog 38 #[.slice (some ⟨g, 0, none⟩) n cap, .int .i64 k] w fun e w' =>
      e = .returned (.int .i64 (k + n)) ∧ w'.ownsRow base 5 1 (.slice (some ⟨g, 0, none⟩) n cap) n (bys (marks k n)) ∧ w.grownBy w' (some g) := by
  have hxl : xs.length = n := by have := hown.1; omega
  go_enter Try.func38, Try.ntmps38
  go_wp2
  go_loopw [1, 5] (fun kk i wr => ∃ j : Nat, j ≤ n ∧ i = .int .i64 j ∧ kk = .int .i64 (k + j) ∧ wr.ownsRow base 5 1 (.slice (some ⟨g, 0, none⟩) n cap) n (bys (marks k j) ++ xs.drop j) ∧ w.grownBy wr (some g)) (fun _ i _ => n - (intOf i).toNat)
  case atStart => exact ⟨0, Nat.zero_le _, rfl, by simp, by simpa [marks, bys] using hown, ⟨rfl, rfl, rfl, Nat.le_refl _, fun _ _ _ => rfl⟩⟩
  case round =>
    obtain ⟨j, hj, rfl, rfl, hown', hg⟩ := hrel
    by_cases hlt : j < n
    · have hcy : ∃ v, wr.cell? ⟨g, j, none⟩ = some v := by
        rw [hown'.cellAt j (by omega)]
        exact ⟨_, List.getElem?_eq_getElem (by simp [bys, marks]; omega)⟩
      obtain ⟨v, hcy⟩ := hcy
      have hfr : wr.frozen? ⟨g, j, none⟩ = false := hown'.frozenAt j
      have R := hown'.stored j (.int .u8 ((k + j) % 256))
      rw [set_mid _ xs j _ (by simp [bys, marks]) (by omega)] at R
      have R1 := hid R
      clear R hown' hown
      go_wp2
      go_roundw
      case rel =>
        refine ⟨j + 1, by omega, by go_num, by go_num, ?_, grown_trans hg R1.out.2⟩
        rw [marks_succ, bys_append]
        exact R1.out.1
      case measure => simp [intOf]; omega
    · go_wp2
      go_ret
      obtain rfl : j = n := by omega
      rw [List.drop_eq_nil_of_le (by omega), List.append_nil] at hown'
      exact ⟨rfl, hown', hg⟩

set_option maxHeartbeats 800000 in
theorem markByteS_zero (ad : Option Addr) (cap : Nat) (k : Int) (w : World) :
    Calls Try.prog 38 #[.slice ad 0 cap, .int .i64 k] w fun e w' => e = .returned (.int .i64 k) ∧ w' = w := by
  go_enter Try.func38, Try.ntmps38
  go_wp2
  go_loopw [1, 5] (fun kk i wr => i = .int .i64 (0 : Nat) ∧ kk = .int .i64 k ∧ wr = w) (fun _ _ _ => 0)
  case atStart => exact ⟨rfl, rfl, rfl⟩
  case round =>
    obtain ⟨rfl, rfl, rfl⟩ := hrel
    go_wp2
    go_ret
    exact ⟨rfl, rfl⟩

theorem markByteS_any {base n : Nat} {v : Value} (k : Int) {xs : List Value} {w : World} (hn : n ≤ 2097152) (hk0 : 0 ≤ k) (hk1 : k ≤ 1000000000)
    (hown : w.ownsRow base 5 1 v n xs) :
    Calls Try.prog 38 #[v, .int .i64 k] w fun e w' =>
      e = .returned (.int .i64 (k + n)) ∧ w'.ownsRow base 5 1 v n (bys (marks k n)) ∧ w.grownBy w' v.ownBlock := by
  rcases hown.2 with ⟨rfl, rfl⟩ | ⟨g, cap, cur, rfl, _⟩
  · refine (markByteS_zero none 0 k w).mono fun e w' ⟨he, hw⟩ => ?_
    subst hw
    exact ⟨by rw [he]; simp, by simpa [marks, bys] using World.ownsRow_nil w' base 5 1, grown_refl _ _⟩
  · exact markByteS_pos base g n cap k xs w hn hk0 hk1 hown

set_option maxHeartbeats 800000 in
theorem heldByteS_pos (b off cap n : Nat) (k : Int) (w : World) (hn : n ≤ 2097152) (hk0 : 0 ≤ k) (hk1 : k ≤ 1000000000)
    (hc : ∀ i, i < n → w.cell? ⟨b, off + i, none⟩ = some (.int .u8 ((k + (i : Nat)) % 256))) :
    Calls Try.prog 39 #[.slice (some ⟨b, off, none⟩) n cap, .int .i64 k] w fun e w' => e = .returned (.int .i64 (k + n)) ∧ w' = w := by
  go_enter Try.func39, Try.ntmps39
  go_wp2
  go_loopw [1, 5] (fun kk i wr => ∃ j : Nat, j ≤ n ∧ i = .int .i64 j ∧ kk = .int .i64 (k + j) ∧ wr = w) (fun _ i _ => n - (intOf i).toNat)
  case atStart => exact ⟨0, Nat.zero_le _, rfl, by simp, rfl⟩
  case round =>
    obtain ⟨j, hj, rfl, rfl, rfl⟩ := hrel
    by_cases hlt : j < n
    · have h1 := hc j hlt
      go_wp2
      go_roundw
      case rel => exact ⟨j + 1, by omega, by go_num, by go_num, by first | trivial | rfl⟩
      case measure => simp [intOf]; omega
    · go_wp2
      go_ret
      obtain rfl : j = n := by omega
      exact ⟨rfl, rfl⟩

set_option maxHeartbeats 800000 in
theorem heldByteS_zero (ad : Option Addr) (cap : Nat) (k : Int) (w : World) :
    Calls Try.prog 39 #[.slice ad 0 cap, .int .i64 k] w fun e w' => e = .returned (.int .i64 k) ∧ w' = w := by
  go_enter Try.func39, Try.ntmps39
  go_wp2
  go_loopw [1, 5] (fun kk i wr => i = .int .i64 (0 : Nat) ∧ kk = .int .i64 k ∧ wr = w) (fun _ _ _ => 0)
  case atStart => exact ⟨rfl, rfl, rfl⟩
  case round =>
    obtain ⟨rfl, rfl, rfl⟩ := hrel
    go_wp2
    go_ret
    exact ⟨rfl, rfl⟩

theorem heldByteS_any {ad : Option Addr} {n : Nat} (cap : Nat) (k : Int) {w : World} (h : Reads w ad n (marks k n)) (hn : n ≤ 2097152) (hk0 : 0 ≤ k) (hk1 : k ≤ 1000000000) :
    Calls Try.prog 39 #[.slice ad n cap, .int .i64 k] w fun e w' => e = .returned (.int .i64 (k + n)) ∧ w' = w := by
  rcases h.cells with rfl | ⟨b, off, rfl, hc⟩
  · refine (heldByteS_zero ad cap k w).mono fun e w' ⟨he, hw⟩ => ⟨by rw [he]; simp, hw⟩
  · exact heldByteS_pos b off cap n k w hn hk0 hk1 fun i hi => by rw [hc i hi, marks_at k n i hi]
end Go.Proofs.Ytioefplkadpfnaa
/- Plain notions for disks in memory: rows of byte rows, each in a block of its own; what they keep. No statement of its own; no conditions. -/

namespace Go.Proofs.Ytioefplkadpfnaa
open Go.RowKit

/-- The blocks lo .. hi stand as they stood. -/
def Agree (lo hi : Nat) (w w' : World) : Prop := ∀ k, lo ≤ k → k < hi → w'.heap[k]? = w.heap[k]?
theorem Agree.refl (lo hi : Nat) (w : World) : Agree lo hi w w := fun _ _ _ => rfl
theorem Agree.below {B lo hi : Nat} {w w' : World} (h : Below B w w') (hh : hi ≤ B) : Agree lo hi w w' := fun k _ h2 => h.block k (by omega)
theorem Agree.trans {lo hi : Nat} {a b c : World} (h : Agree lo hi a b) (k : Agree lo hi b c) : Agree lo hi a c := fun i h1 h2 => (k i h1 h2).trans (h i h1 h2)

/-- Nothing but the blocks lo .. hi has turned. -/
structure Within (lo hi : Nat) (w w' : World) : Prop where
  os : w'.os = w.os
  tape : w'.tape = w.tape
  output : w'.output = w.output
  size : w.heap.size ≤ w'.heap.size
  block : ∀ k, k < w.heap.size → (k < lo ∨ hi ≤ k) → w'.heap[k]? = w.heap[k]?
theorem Within.refl (lo hi : Nat) (w : World) : Within lo hi w w := ⟨rfl, rfl, rfl, Nat.le_refl _, fun _ _ _ => rfl⟩
theorem Within.trans {lo hi : Nat} {a b c : World} (h : Within lo hi a b) (k : Within lo hi b c) : Within lo hi a c :=
  ⟨k.os.trans h.os, k.tape.trans h.tape, k.output.trans h.output, Nat.le_trans h.size k.size, fun i h1 h2 => (k.block i (Nat.lt_of_lt_of_le h1 h.size) h2).trans (h.block i h1 h2)⟩
theorem Within.below {lo hi : Nat} {w w' : World} (h : Within lo hi w w') (hl : lo ≤ w.heap.size) : Below lo w w' := ⟨h.os, h.tape, h.output, h.size, fun k hk => h.block k (by omega) (.inl hk)⟩
theorem Within.agree {lo hi a b : Nat} {w w' : World} (h : Within lo hi w w') (hb : b ≤ w.heap.size) (ho : b ≤ lo ∨ hi ≤ a) : Agree a b w w' := fun k h1 h2 => h.block k (by omega) (by omega)
theorem Within.of_below {B lo hi : Nat} {w w' : World} (h : Below B w w') (hB : w.heap.size ≤ B) : Within lo hi w w' := ⟨h.os, h.tape, h.output, h.size, fun k hk _ => h.block k (by omega)⟩
theorem Within.grown {lo hi : Nat} {w w' : World} {row : Option Nat} (h : w.grownBy w' row) (hr : ∀ k, row = some k → lo ≤ k ∧ k < hi) : Within lo hi w w' :=
  ⟨h.os, h.tape, h.output, h.size, fun k hk ho => h.block k hk (fun e => by have := hr k e.symm; omega)⟩
theorem Within.setCell {lo hi : Nat} (w : World) {p : Addr} (hp : lo ≤ p.block ∧ p.block < hi) (u : Value) : Within lo hi w (w.setCell p u) :=
  ⟨rfl, rfl, rfl, by simp [World.setCell], fun k _ ho => Below.heap_setCell _ _ _ _ (by omega)⟩

theorem owns_agree {w w' : World} {lo hi base : Nat} {e : TypeId} {s : Nat} {v : Value} {n : Nat} {xs : List Value} (ho : w.ownsRow base e s v n xs) (ha : Agree lo hi w w') (hb : ∀ g, v.ownBlock = some g → lo ≤ g ∧ g < hi) : w'.ownsRow base e s v n xs := by
  refine ⟨ho.1, ?_⟩
  rcases ho.2 with hn | ⟨g, cap, cur, rfl, hbg, hg, rest⟩
  · exact .inl hn
  · exact .inr ⟨g, cap, cur, rfl, hbg, by rw [ha g (hb g rfl).1 (hb g rfl).2]; exact hg, rest⟩
theorem owns_lower {w : World} {base base' : Nat} {e : TypeId} {s : Nat} {v : Value} {n : Nat} {xs : List Value} (h : w.ownsRow base e s v n xs) (hb : base' ≤ base) : w.ownsRow base' e s v n xs := by
  refine ⟨h.1, ?_⟩
  rcases h.2 with hn | ⟨g, cap, cur, rfl, hbg, hg, rest⟩
  · exact .inl hn
  · exact .inr ⟨g, cap, cur, rfl, Nat.le_trans hb hbg, hg, rest⟩
/-- Rows of two element types stand in two blocks. -/
theorem owns_ne {w : World} {b b' : Nat} {e e' : TypeId} {s s' : Nat} {v v' : Value} {n n' : Nat} {xs xs' : List Value} (h : w.ownsRow b e s v n xs) (h' : w.ownsRow b' e' s' v' n' xs') (hne : e ≠ e') : v.ownBlock = none ∨ v.ownBlock ≠ v'.ownBlock := by
  rcases h.2 with ⟨rfl, _⟩ | ⟨g, cap, cur, rfl, _, hg, _⟩
  · exact .inl rfl
  · right
    rcases h'.2 with ⟨rfl, _⟩ | ⟨g', cap', cur', rfl, _, hg', _⟩
    · simp [Value.ownBlock]
    · intro he
      simp only [Value.ownBlock, Option.some.injEq] at he
      subst he
      rw [hg] at hg'
      simp only [Option.some.injEq, Obj.cells.injEq] at hg'
      exact hne hg'.2.1

def nilS : Value := .slice none 0 0
theorem nilS_own : nilS.ownBlock = none := rfl
def Apart (a b : Value) : Prop := a.ownBlock = none ∨ a.ownBlock ≠ b.ownBlock
theorem Apart.symm {a b : Value} (h : Apart a b) : Apart b a := by
  rcases h with h | h
  · cases hb : b.ownBlock with
    | none => exact .inl hb
    | some k => exact .inr (by rw [hb, h]; simp)
  · exact .inr (fun e => h e.symm)

/-- A value that is a slice of bytes and reads as zs. -/
def Row (w : World) (v : Value) (zs : List Int) : Prop := ∃ a c, v = .slice a zs.length c ∧ Reads w a zs.length zs ∧ (a = none → c = 0) ∧ zs.length ≤ maxLen
theorem Row.below {w w' : World} {v : Value} {zs : List Int} (h : Row w v zs) {B : Nat} (hb : Below B w w') (hB : w.heap.size ≤ B) : Row w' v zs := by
  obtain ⟨a, c, h1, h2, h3⟩ := h
  exact ⟨a, c, h1, h2.below hb hB, h3⟩
theorem Row.own {w : World} {base : Nat} {v : Value} {n : Nat} {zs : List Int} (h : w.ownsRow base 5 1 v n (bys zs)) (hbd : ∀ i, 0 ≤ zs.getD i 0 ∧ zs.getD i 0 ≤ 255) : Row w v zs := by
  have hl : zs.length = n := by have := h.1; simpa [bys] using this
  obtain ⟨a, c, rfl, r, d⟩ := Reads.own h hbd
  subst hl
  refine ⟨a, c, rfl, r, ?_, ?_⟩
  · intro ha; subst ha
    rcases h.2 with ⟨h1, _⟩ | ⟨g, cap, cur, h1, _⟩
    · exact (Value.slice.inj h1).2.2
    · exact absurd (Value.slice.inj h1).1 (by simp)
  · rcases h.2 with ⟨_, h1⟩ | ⟨g, cap, cur, _, _, _, h1, h2, _⟩
    · rw [h1]; exact Nat.zero_le _
    · exact Nat.le_trans h1 h2

/-- Byte rows of the call's own: each in a block of its own within lo .. hi. -/
structure Bands (w : World) (lo hi : Nat) (xs : List Value) (ss : List (List Int)) : Prop where
  len : xs.length = ss.length
  own : ∀ i, w.ownsRow lo 5 1 (xs.getD i nilS) (ss.getD i []).length (bys (ss.getD i []))
  top : ∀ x ∈ xs, ∀ g, x.ownBlock = some g → g < hi
  apart : xs.Pairwise Apart
  bd : ∀ i j, 0 ≤ (ss.getD i []).getD j 0 ∧ (ss.getD i []).getD j 0 ≤ 255

theorem getD_mem_or {α : Type} (xs : List α) (i : Nat) (d : α) : xs.getD i d = d ∨ xs.getD i d ∈ xs := by
  by_cases h : i < xs.length
  · right
    rw [List.getD_eq_getElem?_getD, List.getElem?_eq_getElem h]
    exact List.getElem_mem h
  · left
    rw [List.getD_eq_getElem?_getD, List.getElem?_eq_none (by omega)]; rfl

theorem Bands.nil (w : World) (lo hi : Nat) : Bands w lo hi [] [] :=
  ⟨rfl, fun _ => World.ownsRow_nil _ _ _ _, fun x hx => (by cases hx), List.Pairwise.nil, fun i j => by simp⟩

theorem Bands.inr {w : World} {lo hi : Nat} {xs : List Value} {ss : List (List Int)} (h : Bands w lo hi xs ss) (i : Nat) : ∀ g, (xs.getD i nilS).ownBlock = some g → lo ≤ g ∧ g < hi := by
  intro g hg
  refine ⟨((h.own i).lt g hg).1, ?_⟩
  rcases getD_mem_or xs i nilS with e | e
  · rw [e] at hg; cases hg
  · exact h.top _ e g hg

theorem Bands.agree {w w' : World} {lo hi : Nat} {xs : List Value} {ss : List (List Int)} (h : Bands w lo hi xs ss) (ha : Agree lo hi w w') : Bands w' lo hi xs ss :=
  ⟨h.len, fun i => owns_agree (h.own i) ha (h.inr i), h.top, h.apart, h.bd⟩
theorem Bands.mono {w : World} {lo hi lo' hi' : Nat} {xs : List Value} {ss : List (List Int)} (h : Bands w lo hi xs ss) (hl : lo' ≤ lo) (hh : hi ≤ hi') : Bands w lo' hi' xs ss :=
  ⟨h.len, fun i => owns_lower (h.own i) hl, fun x hx g hg => Nat.lt_of_lt_of_le (h.top x hx g hg) hh, h.apart, h.bd⟩
theorem Bands.row {w : World} {lo hi : Nat} {xs : List Value} {ss : List (List Int)} (h : Bands w lo hi xs ss) (i : Nat) : Row w (xs.getD i nilS) (ss.getD i []) := Row.own (h.own i) (h.bd i)

theorem getD_app {α : Type} (xs ys : List α) (i : Nat) (d : α) : (xs ++ ys).getD i d = if i < xs.length then xs.getD i d else ys.getD (i - xs.length) d := by
  simp only [List.getD_eq_getElem?_getD, List.getElem?_append]
  split <;> rfl
theorem getD_set' {α : Type} (xs : List α) (i j : Nat) (v d : α) (hi : i < xs.length) : (xs.set i v).getD j d = if j = i then v else xs.getD j d := by
  simp only [List.getD_eq_getElem?_getD, List.getElem?_set]
  by_cases h : i = j
  · subst h; simp [hi]
  · rw [if_neg h, if_neg (fun e => h e.symm)]

theorem Bands.append {w : World} {lo mid hi : Nat} {xs ys : List Value} {ss ts : List (List Int)} (h : Bands w lo mid xs ss) (k : Bands w mid hi ys ts) (h1 : lo ≤ mid) (h2 : mid ≤ hi) : Bands w lo hi (xs ++ ys) (ss ++ ts) := by
  refine ⟨by rw [List.length_append, List.length_append, h.len, k.len], ?_, ?_, ?_, ?_⟩
  · intro i
    rw [getD_app, getD_app, ← h.len]
    split
    · exact h.own i
    · exact owns_lower (k.own _) h1
  · intro x hx g hg
    rcases List.mem_append.1 hx with hx | hx
    · exact Nat.lt_of_lt_of_le (h.top x hx g hg) h2
    · exact k.top x hx g hg
  · refine List.pairwise_append.2 ⟨h.apart, k.apart, fun a ha b hb => ?_⟩
    cases hA : a.ownBlock with
    | none => exact .inl hA
    | some g =>
      refine .inr (fun e => ?_)
      rw [hA] at e
      have h3 := h.top a ha g hA
      obtain ⟨i, hi, rfl⟩ := List.mem_iff_getElem.1 hb
      have := (k.inr i g (by rw [List.getD_eq_getElem?_getD, List.getElem?_eq_getElem hi]; exact e.symm)).1
      omega
  · intro i j
    rw [getD_app]
    split
    · exact h.bd i j
    · exact k.bd _ j

theorem Bands.one {w : World} {lo hi : Nat} {v : Value} {z : List Int} (h : w.ownsRow lo 5 1 v z.length (bys z)) (hb : ∀ j, 0 ≤ z.getD j 0 ∧ z.getD j 0 ≤ 255) (hh : w.heap.size ≤ hi) : Bands w lo hi [v] [z] := by
  refine ⟨rfl, ?_, ?_, List.pairwise_singleton _ _, ?_⟩
  · intro i
    cases i with
    | zero => exact h
    | succ i => simpa [bys, nilS] using World.ownsRow_nil w lo 5 1
  · intro x hx g hg
    obtain rfl := List.mem_singleton.1 hx
    exact Nat.lt_of_lt_of_le (h.lt g hg).2 hh
  · intro i j
    cases i with
    | zero => exact hb j
    | succ i => simp
theorem Bands.snoc {w : World} {lo mid hi : Nat} {xs : List Value} {ss : List (List Int)} {v : Value} {z : List Int} (h : Bands w lo mid xs ss) (h1 : lo ≤ mid) (h2 : mid ≤ hi) (o : w.ownsRow mid 5 1 v z.length (bys z)) (hb : ∀ j, 0 ≤ z.getD j 0 ∧ z.getD j 0 ≤ 255) (hh : w.heap.size ≤ hi) : Bands w lo hi (xs ++ [v]) (ss ++ [z]) :=
  h.append (Bands.one o hb hh) h1 h2
theorem Bands.left {w : World} {lo hi : Nat} {xs ys : List Value} {ss ts : List (List Int)} (h : Bands w lo hi (xs ++ ys) (ss ++ ts)) (hl : xs.length = ss.length) : Bands w lo hi xs ss := by
  refine ⟨hl, ?_, fun x hx => h.top x (List.mem_append.2 (.inl hx)), (List.pairwise_append.1 h.apart).1, ?_⟩
  · intro i
    by_cases hi : i < xs.length
    · have := h.own i
      rw [getD_app, getD_app, ← hl, if_pos hi, if_pos hi] at this
      exact this
    · rw [List.getD_eq_getElem?_getD, List.getD_eq_getElem?_getD, List.getElem?_eq_none (by omega), List.getElem?_eq_none (by omega)]
      exact World.ownsRow_nil _ _ _ _
  · intro i j
    by_cases hi : i < ss.length
    · have := h.bd i j
      rw [getD_app, if_pos hi] at this
      exact this
    · rw [List.getD_eq_getElem?_getD (l := ss), List.getElem?_eq_none (by omega)]; simp
theorem Bands.right {w : World} {lo hi : Nat} {xs ys : List Value} {ss ts : List (List Int)} (h : Bands w lo hi (xs ++ ys) (ss ++ ts)) (hl : xs.length = ss.length) : Bands w lo hi ys ts := by
  refine ⟨?_, ?_, fun x hx => h.top x (List.mem_append.2 (.inr hx)), (List.pairwise_append.1 h.apart).2.1, ?_⟩
  · have := h.len
    rw [List.length_append, List.length_append] at this
    omega
  · intro i
    have := h.own (xs.length + i)
    rw [getD_app, getD_app, ← hl, if_neg (by omega), if_neg (by omega), show xs.length + i - xs.length = i by omega] at this
    exact this
  · intro i j
    have := h.bd (ss.length + i) j
    rw [getD_app, if_neg (by omega), show ss.length + i - ss.length = i by omega] at this
    exact this

/-- One of the rows is written. -/
theorem Bands.put {w w' : World} {lo hi : Nat} {xs : List Value} {ss : List (List Int)} (h : Bands w lo hi xs ss) {i : Nat} (hi' : i < ss.length) {z : List Int}
    (hg : w.grownBy w' (xs.getD i nilS).ownBlock) (o : w'.ownsRow lo 5 1 (xs.getD i nilS) z.length (bys z)) (hb : ∀ j, 0 ≤ z.getD j 0 ∧ z.getD j 0 ≤ 255) : Bands w' lo hi xs (ss.set i z) := by
  refine ⟨by rw [List.length_set]; exact h.len, ?_, h.top, h.apart, ?_⟩
  · intro j
    rw [getD_set' ss i j z [] hi']
    split
    · rename_i e; subst e; exact o
    · rename_i e
      refine (h.own j).kept hg ?_
      by_cases hj : j < xs.length
      · have hl := h.len
        have hx : ∀ a b, a < b → b < xs.length → Apart (xs.getD a nilS) (xs.getD b nilS) := by
          intro a b hab hbl
          have := List.pairwise_iff_getElem.1 h.apart a b (by omega) hbl hab
          rw [List.getD_eq_getElem?_getD, List.getD_eq_getElem?_getD, List.getElem?_eq_getElem hbl, List.getElem?_eq_getElem (show a < xs.length by omega)]
          exact this
        by_cases hij : j < i
        · exact hx j i hij (by omega)
        · exact (hx i j (by omega) hj).symm
      · left
        rw [List.getD_eq_getElem?_getD, List.getElem?_eq_none (by omega)]; rfl
  · intro j q
    rw [getD_set' ss i j z [] hi']
    split
    · exact hb q
    · exact h.bd j q

/-- Another row, of another element type, is written. -/
theorem Bands.beside {w w' : World} {lo hi : Nat} {xs : List Value} {ss : List (List Int)} (h : Bands w lo hi xs ss) {row : Option Nat} (hg : w.grownBy w' row) (hne : ∀ i, (xs.getD i nilS).ownBlock = none ∨ (xs.getD i nilS).ownBlock ≠ row) : Bands w' lo hi xs ss :=
  ⟨h.len, fun i => (h.own i).kept hg (hne i), h.top, h.apart, h.bd⟩

/-- One row is changed for a new one. -/
theorem Bands.swap {w : World} {lo mid hi : Nat} {xs : List Value} {ss : List (List Int)} (h : Bands w lo mid xs ss) (h1 : lo ≤ mid) (h2 : mid ≤ hi) {i : Nat} (hi' : i < ss.length) {v : Value} {z : List Int}
    (o : w.ownsRow mid 5 1 v z.length (bys z)) (hb : ∀ j, 0 ≤ z.getD j 0 ∧ z.getD j 0 ≤ 255) (hh : w.heap.size ≤ hi) : Bands w lo hi (xs.set i v) (ss.set i z) := by
  have hl := h.len
  have hfar : ∀ j, Apart (xs.getD j nilS) v := by
    intro j
    cases hA : (xs.getD j nilS).ownBlock with
    | none => exact .inl hA
    | some g =>
      refine .inr (fun e => ?_)
      have h3 := (h.inr j g hA).2
      rw [hA] at e
      have := (o.lt g e.symm).1
      omega
  refine ⟨by rw [List.length_set, List.length_set]; exact hl, ?_, ?_, ?_, ?_⟩
  · intro j
    rw [getD_set' ss i j z [] hi', getD_set' xs i j v nilS (by omega)]
    split
    · exact owns_lower o h1
    · exact h.own j
  · intro x hx g hg
    rcases List.mem_or_eq_of_mem_set hx with hx | rfl
    · exact Nat.lt_of_lt_of_le (h.top x hx g hg) h2
    · exact Nat.lt_of_lt_of_le (o.lt g hg).2 hh
  · refine List.pairwise_iff_getElem.2 fun a b ha hb' hab => ?_
    rw [List.length_set] at ha hb'
    have e : ∀ q (hq : q < (xs.set i v).length), (xs.set i v)[q] = (xs.set i v).getD q nilS := fun q hq => by rw [List.getD_eq_getElem?_getD, List.getElem?_eq_getElem hq]; rfl
    have e' : ∀ q (hq : q < xs.length), xs[q] = xs.getD q nilS := fun q hq => by rw [List.getD_eq_getElem?_getD, List.getElem?_eq_getElem hq]; rfl
    rw [e, e, getD_set' xs i a v nilS (by omega), getD_set' xs i b v nilS (by omega)]
    by_cases h3 : a = i
    · rw [if_pos h3, if_neg (by omega)]; exact (hfar b).symm
    · rw [if_neg h3]
      by_cases h4 : b = i
      · rw [if_pos h4]; exact hfar a
      · rw [if_neg h4]
        have := List.pairwise_iff_getElem.1 h.apart a b ha hb' hab
        rw [e', e'] at this
        exact this
  · intro j q
    rw [getD_set' ss i j z [] hi']
    split
    · exact hb q
    · exact h.bd j q
end Go.Proofs.Ytioefplkadpfnaa
/- A slice of byte slices, read; the contract of the program's joined. Conditions: lists of at most 2^21 bytes together. -/



namespace Go.Proofs.Ytioefplkadpfnaa
open Go.RowKit
set_option maxRecDepth 100000

/-- How many bytes there are. -/
def tot : List (List Int) → Nat
  | [] => 0
  | z :: zs => z.length + tot zs
theorem tot_app : ∀ a b, tot (a ++ b) = tot a + tot b
  | [], b => by simp [tot]
  | z :: zs, b => by simp only [List.cons_append, tot, tot_app zs b]; omega
theorem tot_step (ss : List (List Int)) (k : Nat) (h : k < ss.length) : tot (ss.take (k + 1)) = tot (ss.take k) + (ss.getD k []).length := by
  rw [List.take_add_one, List.getElem?_eq_getElem h, Option.toList_some, tot_app]
  simp [tot, List.getD, h]
theorem tot_take (ss : List (List Int)) (k : Nat) : tot (ss.take k) ≤ tot ss := by
  have := tot_app (ss.take k) (ss.drop k)
  rw [List.take_append_drop] at this
  omega
theorem tot_le {m : Nat} : ∀ (ss : List (List Int)), (∀ i, i < ss.length → (ss.getD i []).length ≤ m) → tot ss ≤ ss.length * m
  | [], _ => by simp [tot]
  | z :: zs, h => by
    have h0 := h 0 (by simp)
    have ih := tot_le zs (fun i hi => by have := h (i + 1) (by simpa using hi); simpa using this)
    simp only [tot, List.length_cons, Nat.add_mul, Nat.one_mul]
    simp at h0
    omega
theorem tot_at (ss : List (List Int)) (k : Nat) : (ss.getD k []).length ≤ tot ss := by
  by_cases h : k < ss.length
  · have := tot_step ss k h
    have := tot_take ss (k + 1)
    omega
  · rw [List.getD_eq_getElem?_getD, List.getElem?_eq_none (by omega)]; simp

/-- A slice of byte slices, read. -/
structure ReadsS (w : World) (ad : Option Addr) (ss : List (List Int)) : Prop where
  cells : ss.length = 0 ∨ ∃ b off, ad = some ⟨b, off, none⟩ ∧ ∀ i, i < ss.length → ∃ v, w.cell? ⟨b, off + i, none⟩ = some v ∧ Row w v (ss.getD i [])
theorem ReadsS.below {w w' : World} {ad : Option Addr} {ss : List (List Int)} (h : ReadsS w ad ss) {B : Nat} (hb : Below B w w') (hB : w.heap.size ≤ B) : ReadsS w' ad ss := by
  refine ⟨?_⟩
  rcases h.cells with h0 | ⟨b, off, rfl, hc⟩
  · exact .inl h0
  · refine .inr ⟨b, off, rfl, fun i hi => ?_⟩
    obtain ⟨v, h1, h2⟩ := hc i hi
    have := World.block_lt_of_cell? w _ h1
    exact ⟨v, by rw [hb.cell (p := ⟨b, off + i, none⟩) (by simp at this ⊢; omega)]; exact h1, h2.below hb hB⟩

theorem flat_step (ss : List (List Int)) (k : Nat) (h : k < ss.length) : (ss.take (k + 1)).flatten = (ss.take k).flatten ++ ss.getD k [] := by
  rw [List.take_succ_eq_append_getElem h, List.flatten_append]
  simp [List.getD, h]
theorem flat_tot : ∀ ss : List (List Int), ss.flatten.length = tot ss
  | [] => rfl
  | z :: ss => by simp [tot, flat_tot ss]

set_option maxHeartbeats 3200000 in
theorem impl_joined {ad : Option Addr} {m : Nat} (cap : Nat) {ss : List (List Int)} {w : World} (h : ReadsS w ad ss) (hl : ss.length = m) (hm : m ≤ 2097152) (ht : tot ss ≤ 2097152) :
    Calls Try.prog 65 #[.slice ad m cap] w fun e w' => ∃ v, e = .returned v ∧ w'.ownsRow w.heap.size 5 1 v (tot ss) (bys ss.flatten) ∧ Below w.heap.size w w' := by
  obtain ⟨i0, hi, hz0, hz1, hz2⟩ := info_parts Try.info5
  go_enter Try.func65, Try.ntmps65
  go_wp2
  go_loopw [3, 8] (fun l i wr => ∃ (k N : Nat) (a' : Option Addr) (c' : Nat), k ≤ m ∧ i = .int .i64 k ∧ l = .slice a' N c' ∧ Hid (N = tot (ss.take k)) ∧ Hid (wr.ownsRow w.heap.size 5 1 (.slice a' N c') N (bys (ss.take k).flatten)) ∧ Hid (Below w.heap.size w wr)) (fun _ i _ => m - (intOf i).toNat)
  case atStart => exact ⟨0, 0, none, 0, Nat.zero_le _, rfl, rfl, hid rfl, hid (World.ownsRow_nil w w.heap.size 5 1), hid (Below.refl _ _)⟩
  case round =>
    obtain ⟨k, N, a', c', hk, rfl, rfl, HN, HO, HB⟩ := hrel
    by_cases hlt : k < m
    · have hlt' : (k : Int) < (m : Int) := by omega
      have hk0 : (0 : Int) ≤ (k : Int) := by omega
      rcases h.cells with h0 | ⟨b, off, rfl, hc⟩
      · omega
      obtain ⟨v, hcx0, a, c, rfl, hr0, hnil, hmx⟩ := hc k (by omega)
      have hbl := World.block_lt_of_cell? w _ hcx0
      have hcx : wr.cell? ⟨b, off + k, none⟩ = some (.slice a (ss.getD k []).length c) := (HB.out.cell (by exact hbl)).trans hcx0
      have hr := hid (hr0.below HB.out (Nat.le_refl _))
      have HT := hid (flat_step ss k (by omega))
      have HU := hid (tot_step ss k (by omega))
      have HV := hid (tot_take ss (k + 1))
      generalize ss.getD k [] = zs at *
      obtain ⟨z, hz⟩ : ∃ z, zs.length = z := ⟨_, rfl⟩
      rw [hz] at hcx hr HU
      have HZ := hid hz
      have hN : N + z ≤ 2097152 := by have := HU.out; have := HV.out; have := HN.out; omega
      clear hc hcx0 hr0 hz hmx
      rcases ha : a with _ | p2
      · subst ha
        obtain rfl := hnil rfl
        obtain rfl : z = 0 := by
          rcases hr.out.cells with h0 | ⟨b, off, e, _⟩
          · exact h0
          · cases e
        obtain rfl : zs = [] := List.eq_nil_of_length_eq_zero HZ.out
        go_wp2_with (at_builtin; refine wpList_append_own_none rfl _ _ 22 rfl w.heap.size 5 i0 1 Try.underlying22 hi _ _ _ rfl HO.out rfl ?_)
        go_roundw
        case rel => exact ⟨k + 1, N, a', c', by omega, by go_num, rfl, hid (by have := HU.out; have := HN.out; omega), hid (by rw [HT.out, List.append_nil]; exact HO.out), HB⟩
        case measure => simp [intOf]; omega
      · subst ha
        go_wp2_with (at_builtin; refine wpList_append_own _ rfl _ _ 22 rfl w.heap.size 5 i0 (.int .u8 0) 1 1 Try.underlying22 hi hz0 hz1 hz2 rfl (by decide) _ _ _ rfl HO.out p2 z c (bys zs) rfl ?k2 hr.out.news (bys_one _) ?k4 ?k5 HB.out.size ?_)
        case k2 => simp [bys_length, HZ.out]
        case k4 => unfold maxLen; omega
        case k5 => omega
        intro v' w' o' g' _
        have B' := hid (HB.out.grown g' HB.out.size (fun k hk => (HO.out.lt k hk).1))
        obtain ⟨a2, c2, rfl⟩ : ∃ a2 c2, v' = .slice a2 (N + z) c2 := by
          rcases o'.2 with ⟨e, e0⟩ | ⟨g, cap, cur, e, _⟩
          · exact ⟨none, 0, by rw [e, e0]⟩
          · exact ⟨_, cap, e⟩
        have O' := hid o'
        clear o' g'
        go_wp2
        go_roundw
        case rel => exact ⟨k + 1, N + z, a2, c2, by omega, by go_num, rfl, hid (by have := HU.out; have := HN.out; omega), hid (by rw [HT.out, bys_append]; exact O'.out), B'⟩
        case measure => simp [intOf]; omega
    · have hlt' : ¬ (k : Int) < (m : Int) := by omega
      go_wp2
      go_ret
      have e : ss.take k = ss := List.take_of_length_le (by omega)
      have o := HO.out
      have hN := HN.out
      rw [e] at o hN
      refine ⟨_, rfl, ?_, HB.out⟩
      rw [← hN]
      exact o
end Go.Proofs.Ytioefplkadpfnaa
/- Blocks that are laid one behind the other. No statement of its own; no conditions. -/


namespace Go.Proofs.Ytioefplkadpfnaa
open Go.RowKit

theorem alloc_size (w : World) (o : Obj) : (w.alloc o).heap.size = w.heap.size + 1 := by simp
theorem alloc_old (w : World) (o : Obj) (k : Nat) (h : k < w.heap.size) : (w.alloc o).heap[k]? = w.heap[k]? := by
  show (w.heap.push o)[k]? = w.heap[k]?
  rw [Array.getElem?_push, if_neg (by omega)]
theorem three (w : World) (a b c : Obj) :
    (((w.alloc a).alloc b).alloc c).heap.size = w.heap.size + 3 ∧ (((w.alloc a).alloc b).alloc c).heap[w.heap.size + 1]? = some b ∧ (((w.alloc a).alloc b).alloc c).heap[w.heap.size + 1 + 1]? = some c ∧ Below w.heap.size w (((w.alloc a).alloc b).alloc c) := by
  have h1 := alloc_size w a
  have h2 := alloc_size (w.alloc a) b
  have h3 := alloc_size ((w.alloc a).alloc b) c
  refine ⟨by omega, ?_, ?_, (((Below.refl _ _).alloc (Nat.le_refl _) _).alloc (by omega) _).alloc (by omega) _⟩
  · rw [alloc_old _ _ _ (by omega)]
    have := heap_alloc_new (w.alloc a) b
    rwa [h1] at this
  · have := heap_alloc_new ((w.alloc a).alloc b) c
    rwa [h2, h1] at this
theorem two (w : World) (a b : Obj) : Below w.heap.size w ((w.alloc a).alloc b) := ((Below.refl _ _).alloc (Nat.le_refl _) _).alloc (by simp) _

theorem owns_at {w w' : World} {base : Nat} {e : TypeId} {s : Nat} {v : Value} {n : Nat} {xs : List Value} (ho : w.ownsRow base e s v n xs) (h : ∀ k, base ≤ k → w'.heap[k]? = w.heap[k]?) : w'.ownsRow base e s v n xs := by
  refine ⟨ho.1, ?_⟩
  rcases ho.2 with hn | ⟨g, cap, cur, rfl, hbg, hg, rest⟩
  · exact .inl hn
  · exact .inr ⟨g, cap, cur, rfl, hbg, by rw [h g hbg]; exact hg, rest⟩
theorem owns_base {w : World} {base base' : Nat} {e : TypeId} {s : Nat} {v : Value} {n : Nat} {xs : List Value} (h : w.ownsRow base e s v n xs) (hb : base' ≤ base) : w.ownsRow base' e s v n xs := by
  refine ⟨h.1, ?_⟩
  rcases h.2 with hn | ⟨g, cap, cur, rfl, hbg, hg, rest⟩
  · exact .inl hn
  · exact .inr ⟨g, cap, cur, rfl, Nat.le_trans hb hbg, hg, rest⟩
theorem Below.alloc1 (w : World) (o : Obj) : Below w.heap.size w (w.alloc o) := (Below.refl w.heap.size w).alloc (Nat.le_refl _) o
theorem Below.drewN {B : Nat} (w : World) (k : Nat) : Below B w (w.drewN k) := (Still.drewN w k).below B
end Go.Proofs.Ytioefplkadpfnaa
/- The contracts of the laws' helpers over slices of byte slices: toByteSS, eqByteSS, szByteS, szByteSS, markByteSS, heldByteSS; such a slice that came in, read. Conditions: lists of at most 2^21 bytes together where memory is made or counted. -/







namespace Go.Proofs.Ytioefplkadpfnaa
open Go.RowKit Go.ChangeShapes Go.WideShapes Go.Deep
set_option maxRecDepth 100000

theorem Try.info22 : (Try.prog.info? 22).map (fun i => (i.zero, i.size, i.bytes)) = some (some (.slice none 0 0), 1, 24) := by kernel_rfl

theorem ReadsS.own {w : World} {lo lo' hi : Nat} {vS : Value} {ss : List (List Int)} {xs : List Value} (o : w.ownsRow lo 22 1 vS ss.length xs) (hB : Bands w lo' hi xs ss) : ∃ a c, vS = .slice a ss.length c ∧ ReadsS w a ss := by
  rcases o.2 with ⟨rfl, h0⟩ | ⟨g, cap, cur, rfl, _⟩
  · exact ⟨none, 0, by rw [h0], ⟨.inl h0⟩⟩
  · refine ⟨_, cap, rfl, ⟨.inr ⟨g, 0, rfl, fun i hi => ⟨xs.getD i nilS, ?_, hB.row i⟩⟩⟩⟩
    rw [Nat.zero_add, o.cellAt i (by omega), List.getD_eq_getElem?_getD]
    have hl := hB.len
    rw [List.getElem?_eq_getElem (by omega)]
    rfl

theorem toList_madeCells_one' (z : Value) (n : Nat) : (madeCells #[z] n).toList = List.replicate n z := toList_madeCells_one z n

theorem rep_drop (xs : List Value) (k n : Nat) (z v : Value) (hx : xs.length = k) (hk : k < n) : (xs ++ List.replicate (n - k) z).set k v = (xs ++ [v]) ++ List.replicate (n - (k + 1)) z := by
  rw [List.set_append_right _ _ (by omega), hx, Nat.sub_self, show n - k = (n - (k + 1)) + 1 by omega, List.replicate_succ, List.set_cons_zero]
  simp

theorem take_snoc {α : Type} (xs : List α) (k : Nat) (d : α) (h : k < xs.length) : xs.take (k + 1) = xs.take k ++ [xs.getD k d] := by
  rw [List.take_add_one, List.getElem?_eq_getElem h, Option.toList_some]
  simp [List.getD, h]

/-- What is left, or -1. -/
def lft (left : Int) (n : Nat) : Int := if left < n then -1 else left - n

theorem getD_left {α : Type} (xs ys : List α) (i : Nat) (d : α) (h : i < xs.length) : (xs ++ ys).getD i d = xs.getD i d := by rw [getD_app, if_pos h]

theorem getD_right {α : Type} (xs ys : List α) (i : Nat) (d : α) : (xs ++ ys).getD (xs.length + i) d = ys.getD i d := by rw [getD_app, if_neg (by omega), show xs.length + i - xs.length = i by omega]

theorem cell_getD {w : World} {lo n : Nat} {g cap : Nat} {xs : List Value} (o : w.ownsRow lo 22 1 (.slice (some ⟨g, 0, none⟩) n cap) n xs) {i : Nat} (hi : i < n) : w.cell? ⟨g, i, none⟩ = some (xs.getD i nilS) := by
  rw [o.cellAt i (by omega), List.getD_eq_getElem?_getD]
  have := o.1
  rw [List.getElem?_eq_getElem (by omega)]
  rfl

theorem addr_plain {w : World} {a : Addr} {v : Value} (h : w.cell? (a.add 0) = some v) : ∃ b off, a = ⟨b, off, none⟩ := by
  obtain ⟨b, off, spot⟩ := a
  have hspot : spot = none := by simpa [Addr.add] using World.cell?_spot h
  subst hspot
  exact ⟨b, off, rfl⟩

theorem add_at (b off k : Nat) : (⟨b, off, none⟩ : Addr).add k = ⟨b, off + k, none⟩ := Go.WideShapes.add_plain b off k

theorem row_in {w : World} {a : Option Addr} {len cap : Nat} {zs : List Int}
    (h : (a = none ∧ len = 0 ∧ cap = 0 ∧ zs = []) ∨ ∃ x, a = some x ∧ len ≤ cap ∧ cap ≤ maxLen ∧ zs.length = cap ∧ (∀ i, i < zs.length → w.cell? (x.add i) = some (.int .u8 (zs.getD i 0))) ∧ ∀ n ∈ zs, (Lit.int .u8 n).wf = true) :
    Row w (.slice a len cap) (zs.take len) := by
  have r := reads_in h
  have hl := r.len
  have hm := len_in h
  refine ⟨a, cap, by rw [hl], by rw [hl]; exact r, ?_, by omega⟩
  intro ha
  rcases h with ⟨_, _, h, _⟩ | ⟨x, hx, _⟩
  · exact h
  · rw [ha] at hx; cases hx

section
variable {H : Type} {enc : TypeId × Value → H} {w : World} {base : Nat} {held : Bool}
theorem sectors_in {fuel : Nat} {v : Value} {x : DataW H × List MemPlace} (h : DataW.trod enc Try.prog w base (fun _ => true) held fuel 24 [v] = some x) :
    ∃ a n c ss, v = .slice a n c ∧ ss.length = n ∧ n ≤ maxLen ∧ ReadsS w a ss := by
  rcases open_int_rows (k := .u8) Try.underlying24 Try.underlying22 Try.underlying5 (by kernel_rfl) (by kernel_rfl) h with ⟨hcs, _⟩ | ⟨a, len, cap, A, L, C, Z, hcs, _, hlc, hcm, _, hx⟩
  · exact ⟨none, 0, 0, [], by simpa using hcs, rfl, Nat.zero_le _, ⟨.inl rfl⟩⟩
  · refine ⟨some a, len, cap, (List.range len).map fun r => (Z r).take (L r), by simpa using hcs, by simp, Nat.le_trans hlc hcm, ⟨?_⟩⟩
    by_cases h0 : len = 0
    · left; simp [h0]
    · right
      obtain ⟨b, off, rfl⟩ := addr_plain (hx 0 (by omega)).1
      refine ⟨b, off, rfl, fun i hi => ?_⟩
      simp only [List.length_map, List.length_range] at hi
      obtain ⟨h1, h2, h3, h4, h5, h6, h7⟩ := hx i (by omega)
      rw [add_at] at h1
      refine ⟨_, h1, ?_⟩
      rw [show ((List.range len).map fun r => (Z r).take (L r)).getD i [] = (Z i).take (L i) by simp [List.getD, hi]]
      refine row_in ?_
      cases hA : A i with
      | none =>
        have hC := h6 hA
        exact .inl ⟨rfl, by omega, hC, List.eq_nil_of_length_eq_zero (by omega)⟩
      | some y => exact .inr ⟨y, rfl, h2, h3, h4, fun c hc => (h7 y hA).2 c (by omega), h5⟩

end
end Go.Proofs.Ytioefplkadpfnaa
/- A page in a block of its own, and what it leads to; a page whose memory is the call's own. No statement of its own; no conditions. -/

namespace Go.Proofs.Ytioefplkadpfnaa
open Go.RowKit

structure BoxP (w : World) (g : Nat) (L : Int) (a : Option Addr) (n c : Nat) : Prop where
  c0 : w.cell? ⟨g, 0, none⟩ = some (.int .i64 L)
  c1 : w.cell? ⟨g, 1, none⟩ = some (.slice a n c)
section
variable {w w' : World} {g lo : Nat} {L : Int} {a : Option Addr} {n c : Nat} {ss ss' : List (List Int)}
theorem BoxP.row {t : TypeId} (h : w.heap[g]? = some (.cells #[.int .i64 L, .slice a n c] t (0, 0))) : BoxP w g L a n c := by
  refine ⟨?_, ?_⟩ <;> (rw [cell_of_row _ _ _ _ _ _ h]; rfl)
theorem BoxP.new (w : World) (L : Int) (a : Option Addr) (n c : Nat) (t : TypeId) : BoxP (w.alloc (.cells #[.int .i64 L, .slice a n c] t)) w.heap.size L a n c := BoxP.row (heap_alloc_new w (.cells #[.int .i64 L, .slice a n c] t))
theorem BoxP.agree (b : BoxP w g L a n c) (h : w'.heap[g]? = w.heap[g]?) : BoxP w' g L a n c :=
  ⟨(World.cell?_of_block (w := w) (a := ⟨g, 0, none⟩) h).trans b.c0, (World.cell?_of_block (w := w) (a := ⟨g, 1, none⟩) h).trans b.c1⟩
theorem BoxP.lt (b : BoxP w g L a n c) : g < w.heap.size := World.block_lt_of_cell? w _ b.c0
theorem BoxP.below (b : BoxP w g L a n c) {B : Nat} (h : Below B w w') (hB : w.heap.size ≤ B) : BoxP w' g L a n c := b.agree (h.block g (Nat.lt_of_lt_of_le b.lt hB))

/-- An argument that came in: its box, and what it reads. -/
structure ArgP (w : World) (g : Nat) (L : Int) (a : Option Addr) (n c : Nat) (ss : List (List Int)) : Prop where
  box : BoxP w g L a n c
  reads : ReadsS w a ss
theorem ArgP.lt (x : ArgP w g L a n c ss) : g < w.heap.size := x.box.lt
theorem ArgP.new (L : Int) (n c : Nat) (h : ReadsS w a ss) (t : TypeId) (g : Nat) (hg : g = w.heap.size) : ArgP (w.alloc (.cells #[.int .i64 L, .slice a n c] t)) g L a n c ss := by
  subst hg
  exact ⟨BoxP.new w L a n c t, h.below (Below.alloc1 w _) (Nat.le_refl _)⟩
theorem ArgP.below (x : ArgP w g L a n c ss) {B : Nat} (h : Below B w w') (hB : w.heap.size ≤ B) : ArgP w' g L a n c ss := ⟨x.box.below h hB, x.reads.below h hB⟩
theorem ArgP.alloc (x : ArgP w g L a n c ss) (o : Obj) : ArgP (w.alloc o) g L a n c ss := x.below (Below.alloc1 w o) (Nat.le_refl _)
theorem ArgP.drewN (x : ArgP w g L a n c ss) (k : Nat) : ArgP (w.drewN k) g L a n c ss := x.below ((Still.drewN w k).below w.heap.size) (Nat.le_refl _)
theorem ArgP.within {lo' hi' : Nat} (x : ArgP w g L a n c ss) (h : Within lo' hi' w w') (hg : g < lo' ∨ hi' ≤ g) (hr : ReadsS w' a ss) : ArgP w' g L a n c ss := ⟨x.box.agree (h.block g x.lt hg), hr⟩
end

/-- Slots of the call's own: the list's block and the rows' lie between lo and hi. -/
structure OwnP (w : World) (lo hi : Nat) (v : Value) (ss : List (List Int)) : Prop where
  own : ∃ xs : List Value, w.ownsRow lo 22 1 v ss.length xs ∧ Bands w lo hi xs ss
  top : ∀ g, v.ownBlock = some g → g < hi
section
variable {w w' : World} {lo hi g : Nat} {v : Value} {L : Int} {a : Option Addr} {n c : Nat} {ss ss' : List (List Int)}
theorem OwnP.rd (h : OwnP w lo hi (.slice a n c) ss) : ReadsS w a ss := by
  obtain ⟨xs, o, b⟩ := h.own
  obtain ⟨a', c', e, r⟩ := ReadsS.own o b
  obtain ⟨rfl, _, _⟩ := Value.slice.inj e
  exact r
theorem OwnP.slice (h : OwnP w lo hi v ss) : ∃ a c, v = .slice a ss.length c ∧ ReadsS w a ss := by
  obtain ⟨xs, o, b⟩ := h.own
  exact ReadsS.own o b
theorem OwnP.agree (h : OwnP w lo hi v ss) (ha : Agree lo hi w w') : OwnP w' lo hi v ss := by
  obtain ⟨xs, o, b⟩ := h.own
  exact ⟨⟨xs, owns_agree o ha (fun g hg => ⟨(o.lt g hg).1, h.top g hg⟩), b.agree ha⟩, h.top⟩
theorem OwnP.below (h : OwnP w lo hi v ss) {B : Nat} (hb : Below B w w') (hB : hi ≤ B) : OwnP w' lo hi v ss := h.agree (Agree.below hb hB)
theorem OwnP.mono {lo' hi' : Nat} (h : OwnP w lo hi v ss) (hl : lo' ≤ lo) (hh : hi ≤ hi') : OwnP w lo' hi' v ss := by
  obtain ⟨xs, o, b⟩ := h.own
  exact ⟨⟨xs, owns_lower o hl, b.mono hl hh⟩, fun g hg => Nat.lt_of_lt_of_le (h.top g hg) hh⟩
theorem OwnP.nil (w : World) (lo hi : Nat) : OwnP w lo hi (.slice none 0 0) [] :=
  ⟨⟨[], World.ownsRow_nil w lo 22 1, Bands.nil w lo hi⟩, fun g hg => by cases hg⟩

/-- A page of the call's own, its box behind it. -/
structure OwnB (w : World) (lo g : Nat) (L : Int) (a : Option Addr) (n c : Nat) (ss : List (List Int)) : Prop where
  box : BoxP w g L a n c
  own : OwnP w lo g (.slice a n c) ss
theorem OwnB.lt (x : OwnB w lo g L a n c ss) : g < w.heap.size := x.box.lt
theorem OwnB.reads (x : OwnB w lo g L a n c ss) : ReadsS w a ss := x.own.rd
theorem OwnB.new (L : Int) (h : OwnP w lo w.heap.size (.slice a n c) ss) (t : TypeId) (g : Nat) (hg : g = w.heap.size) : OwnB (w.alloc (.cells #[.int .i64 L, .slice a n c] t)) lo g L a n c ss := by
  subst hg
  exact ⟨BoxP.new w L a n c t, h.below (Below.alloc1 w _) (Nat.le_refl _)⟩
theorem OwnB.below (x : OwnB w lo g L a n c ss) {B : Nat} (h : Below B w w') (hB : w.heap.size ≤ B) : OwnB w' lo g L a n c ss :=
  ⟨x.box.below h hB, x.own.below h (by have := x.lt; omega)⟩
theorem OwnB.alloc (x : OwnB w lo g L a n c ss) (o : Obj) : OwnB (w.alloc o) lo g L a n c ss := x.below (Below.alloc1 w o) (Nat.le_refl _)
theorem OwnB.drewN (x : OwnB w lo g L a n c ss) (k : Nat) : OwnB (w.drewN k) lo g L a n c ss := x.below ((Still.drewN w k).below w.heap.size) (Nat.le_refl _)
/-- .. while another one is written: wholly ahead of it, or behind its box. -/
theorem OwnB.within {lo' hi' : Nat} (x : OwnB w lo g L a n c ss) (h : Within lo' hi' w w') (ho : (hi' ≤ lo ∧ hi' ≤ g) ∨ g < lo') : OwnB w' lo g L a n c ss :=
  ⟨x.box.agree (h.block g x.lt (by omega)), x.own.agree (h.agree (by have := x.lt; omega) (by omega))⟩
/-- .. while it is written itself. -/
theorem OwnB.self (x : OwnB w lo g L a n c ss) (h : Within lo g w w') (o : OwnP w' lo g (.slice a n c) ss') : OwnB w' lo g L a n c ss' :=
  ⟨x.box.agree (h.block g x.lt (.inr (Nat.le_refl _))), o⟩
end
end Go.Proofs.Ytioefplkadpfnaa
/- The contracts of the laws' toPage, szPage, eqPage, markPage, heldPage; a page that came in, read. Conditions: lists of at most 2^21 bytes together where memory is made or counted. -/

namespace Go.Proofs.Ytioefplkadpfnaa
open Go.RowKit
set_option maxRecDepth 100000

theorem size_pg : (Try.prog.info? 26).map (·.size) = some 2 := by kernel_rfl
/-- What a block holds is kept while cells of another are written. -/
theorem heap_set_ne (w : World) (g o k : Nat) (u : Value) (h : k ≠ g) : (w.setCell ⟨g, o, none⟩ u).heap[k]? = w.heap[k]? := heap_setCell_other w ⟨g, o, none⟩ k u (by simpa using h)

theorem set_size (w : World) (a : Addr) (u : Value) : (w.setCell a u).heap.size = w.heap.size := by simp

section
variable {H : Type} {enc : TypeId × Value → H} {w : World} {base : Nat} {held : Bool}
end
end Go.Proofs.Ytioefplkadpfnaa
/- A region that draws its order, one of whose operations (number L, a store) waits for all that read: a condition on the world that is shown behind every operation but that one. No statement of its own; no conditions. -/

namespace Go.Proofs.Ytioefplkadpfnaa
open Go

/-- Operation L waits for operation i. -/
def waitsFor (md : Region.Mode) (ops : Array Oper) (L i : Nat) : Bool :=
  match ops[L]? with
  | some o => o.after.any fun e => Region.binds md e && e.on == i
  | none => false

section
variable {P : Program} {ops : Array Oper} {Q : Exit → Act → World → Prop} {md : Region.Mode} {S : World → Prop} {L : Nat}

/-- Whatever order is picked, S holding behind every operation but L. -/
def anyK (P : Program) (md : Region.Mode) (ops : Array Oper) (Q : Exit → Act → World → Prop) (S : World → Prop) (L : Nat) : Nat → Array Bool → Act → World → Prop
  | 0, listed, a, w => Region.ready md ops listed = [] ∧ Q .normal a w
  | n + 1, listed, a, w => (Region.ready md ops listed = [] → Q .normal a w) ∧
      ∀ i ∈ Region.ready md ops listed, wpOp P ops Q i (fun a' w' => (i = L ∨ S w') ∧ anyK P md ops Q S L n (listed.setIfInBounds i true) a' w') a w

theorem anyK_any : ∀ (n : Nat) (listed : Array Bool) (a : Act) (w : World), anyK P md ops Q S L n listed a w → wpAny P md ops Q n listed a w
  | 0, _, _, _, h => h
  | n + 1, _, _, _, h => ⟨h.1, fun i hi => wpOp_mono (fun a' w' k => anyK_any n _ a' w' k.2) (h.2 i hi)⟩

theorem anyK_first {i : Nat} {oi : Oper} {v : Value} (hi : ops[i]? = some oi) (hsel : ∀ (j : Nat) (o : Oper) cs b, ops[j]? = some o → o.op ≠ .select cs b)
    (hQ : ∀ c a w, Q (.panic c) (a.put oi.dst v) w → Q (.panic c) a w) (hL : waitsFor md ops L i = true) (n : Nat) : ∀ (listed : Array Bool) (a : Act) (w : World),
      (∀ j oj, ops[j]? = some oj → j ≠ i → listed.getD j true = false → (∀ e ∈ oj.after, Region.binds md e = true → e.on ≠ i) → oi.apart ops oj = true) →
      i ∈ Region.ready md ops listed → YieldsIf P ops S oi v a → S w →
      anyK P md ops Q S L n (listed.setIfInBounds i true) (a.put oi.dst v) w → anyK P md ops Q S L (n + 1) listed a w := by
  induction n with
  | zero =>
    intro listed a w _ hr hy hS H
    refine ⟨fun e => absurd hr (by rw [e]; simp), fun j hj => ?_⟩
    rcases Nat.decEq j i with hne | heq
    · have hm := ready_mono hj hne
      rw [H.1] at hm
      cases hm
    · subst heq
      exact hy.wpOp hi hS ⟨.inr hS, H⟩
  | succ n ih =>
    intro listed a w hfree hr hy hS H
    refine ⟨fun e => absurd hr (by rw [e]; simp), fun j hj => ?_⟩
    rcases Nat.decEq j i with hne | heq
    · obtain ⟨hju, oj, hoj, hall⟩ := mem_ready.1 hj
      have hunl := (mem_ready.1 hr).1
      have hno : ∀ e ∈ oj.after, Region.binds md e = true → e.on ≠ i := by
        intro e he hb heq
        have h1 := hall e he hb
        rw [heq] at h1
        by_cases hsz : i < listed.size
        · simp [hsz] at hunl h1
          rw [hunl] at h1
          cases h1
        · simp [Array.getElem?_eq_none (Nat.le_of_not_lt hsz)] at h1
      have hjL : j ≠ L := by
        intro e
        subst e
        simp only [waitsFor, hoj] at hL
        obtain ⟨e, he, hb⟩ := Array.any_eq_true'.1 hL
        simp only [Bool.and_eq_true, beq_iff_eq] at hb
        exact hno e he hb.1 hb.2
      have step := wpOp_putIf hoj (hfree j oj hoj hne hju hno) (fun cs b => hsel i oi cs b hi) (fun cs b => hsel j oj cs b hoj) hQ hy (H.2 j (ready_mono hj hne))
      refine wpOp_mono (fun a' w' k => ?_) step
      obtain ⟨k1, k2, k3⟩ := k
      rcases k2 with k2 | k2
      · exact absurd k2 hjL
      · refine ⟨.inr k2, ih (listed.setIfInBounds j true) a' w' ?_ (ready_mono hr (fun e => hne e.symm)) k1 k2 ?_⟩
        · intro q oq hq hqi hun hnq
          refine hfree q oq hq hqi ?_ hnq
          by_cases hjq : j = q
          · subst hjq; exact hju
          · rw [getD_set_ne true hjq] at hun; exact hun
        · rw [Array.setIfInBounds_comm _ _ hne]
          exact k3
    · subst heq
      exact hy.wpOp hi hS ⟨.inr hS, H⟩

/-- Number i, which only reads what S tells, is taken first. -/
theorem anyK_take {i : Nat} {oi : Oper} {v : Value} {n : Nat} {listed : Array Bool} {a : Act} {w : World} (hi : ops[i]? = some oi) (hs : Region.noSelect ops = true) (hf : Region.free md ops listed i = true) (hr : (Region.ready md ops listed).contains i = true) (hL : waitsFor md ops L i = true)
    (hQ : ∀ c a w, Q (.panic c) (a.put oi.dst v) w → Q (.panic c) a w) (hw : Region.wanted oi (yielded ops a.tmps) = true) (hS : S w) (hy : ∀ w, S w → (execOp a.eval oi).run P w = .ok (.value v) w) (d : Option Tmp) (hd : oi.dst = d)
    (h : anyK P md ops Q S L n (listed.setIfInBounds i true) (a.put d v) w) : anyK P md ops Q S L (n + 1) listed a w :=
  anyK_first hi (Region.noSelect_spec hs) hQ hL n listed a w (Region.free_spec hi hf) (by simpa using hr) (.inl ⟨hw, hy⟩) hS (by rw [hd]; exact h)

/-- Number i alone may come up: behind it S is shown anew. -/
theorem anyK_step {i : Nat} {o : Oper} {n : Nat} {listed : Array Bool} {a : Act} {w : World} (hr : Region.ready md ops listed = [i]) (ho : ops[i]? = some o)
    (h : ∀ K : Act → World → Prop, Shut (∀ a w, S w → (S w → anyK P md ops Q S L n (listed.setIfInBounds i true) a w) → K a w) → if Region.wanted o (yielded ops a.tmps) = true then Oper.wp P o a w K Q else K (a.put o.dst undef) w) : anyK P md ops Q S L (n + 1) listed a w := by
  refine ⟨fun e => absurd e (by rw [hr]; simp), fun j hj => ?_⟩
  rw [hr] at hj
  obtain rfl := List.mem_singleton.1 hj
  exact wpOp_step ho (fun K hK => h K (fun a w hS hW => hK a w ⟨.inr hS, hW hS⟩))

/-- L alone may come up. -/
theorem anyK_last {o : Oper} {n : Nat} {listed : Array Bool} {a : Act} {w : World} (hr : Region.ready md ops listed = [L]) (ho : ops[L]? = some o)
    (h : ∀ K : Act → World → Prop, Shut (∀ a w, anyK P md ops Q S L n (listed.setIfInBounds L true) a w → K a w) → if Region.wanted o (yielded ops a.tmps) = true then Oper.wp P o a w K Q else K (a.put o.dst undef) w) : anyK P md ops Q S L (n + 1) listed a w := by
  refine ⟨fun e => absurd e (by rw [hr]; simp), fun j hj => ?_⟩
  rw [hr] at hj
  obtain rfl := List.mem_singleton.1 hj
  exact wpOp_step ho (fun K hK => h K (fun a w hW => hK a w ⟨.inl rfl, hW⟩))

theorem anyK_done {listed : Array Bool} {a : Act} {w : World} (hr : Region.ready md ops listed = []) (h : Q .normal a w) : ∀ n, anyK P md ops Q S L n listed a w
  | 0 => ⟨hr, h⟩
  | _ + 1 => ⟨fun _ => h, by rw [hr]; simp⟩

/-- The beginning. -/
theorem region_K {id : Nat} {a : Act} {w : World} (L : Nat) (S : World → Prop) (hm : P.follows .mixedOrders = true) (hS : S w.drew)
    (h : S w.drew → anyK P .any ops Q S L ops.size (Array.replicate ops.size false) a w.drew) : (Code.region id ops true).wp P Q a w :=
  wp_region_any hm (anyK_any _ _ _ _ (h hS))
end
end Go.Proofs.Ytioefplkadpfnaa
/- A region that draws its order and writes nothing: what reads is taken first. No statement of its own; no conditions. -/

namespace Go.Proofs.Ytioefplkadpfnaa
open Go

section
variable {P : Program} {ops : Array Oper} {Q : Exit → Act → World → Prop} {md : Region.Mode} {S : World → Prop} {L : Nat}
theorem anyK_first2 {i : Nat} {oi : Oper} {v : Value} (hi : ops[i]? = some oi) (hsel : ∀ (j : Nat) (o : Oper) cs b, ops[j]? = some o → o.op ≠ .select cs b)
    (hQ : ∀ c a w, Q (.panic c) (a.put oi.dst v) w → Q (.panic c) a w) (hL : ops[L]? = none) (n : Nat) : ∀ (listed : Array Bool) (a : Act) (w : World),
      (∀ j oj, ops[j]? = some oj → j ≠ i → listed.getD j true = false → (∀ e ∈ oj.after, Region.binds md e = true → e.on ≠ i) → oi.apart ops oj = true) →
      i ∈ Region.ready md ops listed → YieldsIf P ops S oi v a → S w →
      anyK P md ops Q S L n (listed.setIfInBounds i true) (a.put oi.dst v) w → anyK P md ops Q S L (n + 1) listed a w := by
  induction n with
  | zero =>
    intro listed a w _ hr hy hS H
    refine ⟨fun e => absurd hr (by rw [e]; simp), fun j hj => ?_⟩
    rcases Nat.decEq j i with hne | heq
    · have hm := ready_mono hj hne
      rw [H.1] at hm
      cases hm
    · subst heq
      exact hy.wpOp hi hS ⟨.inr hS, H⟩
  | succ n ih =>
    intro listed a w hfree hr hy hS H
    refine ⟨fun e => absurd hr (by rw [e]; simp), fun j hj => ?_⟩
    rcases Nat.decEq j i with hne | heq
    · obtain ⟨hju, oj, hoj, hall⟩ := mem_ready.1 hj
      have hunl := (mem_ready.1 hr).1
      have hno : ∀ e ∈ oj.after, Region.binds md e = true → e.on ≠ i := by
        intro e he hb heq
        have h1 := hall e he hb
        rw [heq] at h1
        by_cases hsz : i < listed.size
        · simp [hsz] at hunl h1
          rw [hunl] at h1
          cases h1
        · simp [Array.getElem?_eq_none (Nat.le_of_not_lt hsz)] at h1
      have hjL : j ≠ L := by
        intro e
        subst e
        rw [hL] at hoj
        cases hoj
      have step := wpOp_putIf hoj (hfree j oj hoj hne hju hno) (fun cs b => hsel i oi cs b hi) (fun cs b => hsel j oj cs b hoj) hQ hy (H.2 j (ready_mono hj hne))
      refine wpOp_mono (fun a' w' k => ?_) step
      obtain ⟨k1, k2, k3⟩ := k
      rcases k2 with k2 | k2
      · exact absurd k2 hjL
      · refine ⟨.inr k2, ih (listed.setIfInBounds j true) a' w' ?_ (ready_mono hr (fun e => hne e.symm)) k1 k2 ?_⟩
        · intro q oq hq hqi hun hnq
          refine hfree q oq hq hqi ?_ hnq
          by_cases hjq : j = q
          · subst hjq; exact hju
          · rw [getD_set_ne true hjq] at hun; exact hun
        · rw [Array.setIfInBounds_comm _ _ hne]
          exact k3
    · subst heq
      exact hy.wpOp hi hS ⟨.inr hS, H⟩

/-- Number i, which only reads what S tells, is taken first. -/
theorem anyK_take2 {i : Nat} {oi : Oper} {v : Value} {n : Nat} {listed : Array Bool} {a : Act} {w : World} (hi : ops[i]? = some oi) (hs : Region.noSelect ops = true) (hf : Region.free md ops listed i = true) (hr : (Region.ready md ops listed).contains i = true) (hL : ops[L]? = none)
    (hQ : ∀ c a w, Q (.panic c) (a.put oi.dst v) w → Q (.panic c) a w) (hw : Region.wanted oi (yielded ops a.tmps) = true) (hS : S w) (hy : ∀ w, S w → (execOp a.eval oi).run P w = .ok (.value v) w) (d : Option Tmp) (hd : oi.dst = d)
    (h : anyK P md ops Q S L n (listed.setIfInBounds i true) (a.put d v) w) : anyK P md ops Q S L (n + 1) listed a w :=
  anyK_first2 hi (Region.noSelect_spec hs) hQ hL n listed a w (Region.free_spec hi hf) (by simpa using hr) (.inl ⟨hw, hy⟩) hS (by rw [hd]; exact h)

end
theorem anyK_two {P : Program} {ops : Array Oper} {Q : Exit → Act → World → Prop} {md : Region.Mode} {S : World → Prop} {L i j : Nat} {oi oj : Oper} {n : Nat} {listed : Array Bool} {a : Act} {w : World} (hr : Region.ready md ops listed = [i, j]) (hoi : ops[i]? = some oi) (hoj : ops[j]? = some oj)
    (hi : ∀ K : Act → World → Prop, Shut (∀ a w, S w → (S w → anyK P md ops Q S L n (listed.setIfInBounds i true) a w) → K a w) → if Region.wanted oi (yielded ops a.tmps) = true then Oper.wp P oi a w K Q else K (a.put oi.dst undef) w)
    (hj : ∀ K : Act → World → Prop, Shut (∀ a w, S w → (S w → anyK P md ops Q S L n (listed.setIfInBounds j true) a w) → K a w) → if Region.wanted oj (yielded ops a.tmps) = true then Oper.wp P oj a w K Q else K (a.put oj.dst undef) w) : anyK P md ops Q S L (n + 1) listed a w := by
  refine ⟨fun e => absurd e (by rw [hr]; simp), fun q hq => ?_⟩
  rw [hr] at hq
  rcases List.mem_cons.1 hq with rfl | hq
  · exact wpOp_step hoi (fun K hK => hi K (fun a w hS hW => hK a w ⟨.inr hS, hW hS⟩))
  · obtain rfl := List.mem_singleton.1 hq
    exact wpOp_step hoj (fun K hK => hj K (fun a w hS hW => hK a w ⟨.inr hS, hW hS⟩))
end Go.Proofs.Ytioefplkadpfnaa
/- A region that draws its order: what stands may become more on the way; what is not wanted is passed by. No statement of its own; no conditions. -/

namespace Go.Proofs.Ytioefplkadpfnaa
open Go

section
variable {P : Program} {ops : Array Oper} {Q : Exit → Act → World → Prop} {md : Region.Mode} {S S' : World → Prop} {L : Nat}
theorem anyK_imp (hS : ∀ w, S' w → S w) : ∀ (n : Nat) (listed : Array Bool) (a : Act) (w : World), anyK P md ops Q S' L n listed a w → anyK P md ops Q S L n listed a w
  | 0, _, _, _, h => h
  | n + 1, _, _, _, h => ⟨h.1, fun i hi => wpOp_mono (fun a' w' k => ⟨k.1.imp id (hS _), anyK_imp hS n _ a' w' k.2⟩) (h.2 i hi)⟩
/-- More stands from here on. -/
theorem anyK_more {n : Nat} {listed : Array Bool} {a : Act} {w : World} (S' : World → Prop) (hS : ∀ w, S' w → S w) (h0 : S' w) (h : S' w → anyK P md ops Q S' L n listed a w) : anyK P md ops Q S L n listed a w := anyK_imp hS n listed a w (h h0)
/-- Number i, which is not wanted, is passed by. -/
theorem anyK_skip {i : Nat} {oi : Oper} {n : Nat} {listed : Array Bool} {a : Act} {w : World} (hi : ops[i]? = some oi) (hs : Region.noSelect ops = true) (hf : Region.free md ops listed i = true) (hr : (Region.ready md ops listed).contains i = true) (hL : ops[L]? = none)
    (hQ : ∀ c a w, Q (.panic c) (a.put oi.dst undef) w → Q (.panic c) a w) (hw : Region.wanted oi (yielded ops a.tmps) = false) (hS : S w) (d : Option Tmp) (hd : oi.dst = d)
    (h : anyK P md ops Q S L n (listed.setIfInBounds i true) (a.put d undef) w) : anyK P md ops Q S L (n + 1) listed a w :=
  anyK_first2 hi (Region.noSelect_spec hs) hQ hL n listed a w (Region.free_spec hi hf) (by simpa using hr) (.inr ⟨hw, rfl⟩) hS (by rw [hd]; exact h)
end
end Go.Proofs.Ytioefplkadpfnaa
/- An append of whatever row to a row of the call's own, at a step of a region that draws and at a plain one; rows of rows that grow. No statement of its own; no conditions. -/




namespace Go.Proofs.Ytioefplkadpfnaa
open Go.RowKit

theorem own_sl {w : World} {base n : Nat} {e : TypeId} {s : Nat} {v : Value} {xs : List Value} (h : w.ownsRow base e s v n xs) : ∃ a c, v = .slice a n c := by
  rcases h.2 with ⟨rfl, rfl⟩ | ⟨g, cap, cur, rfl, _⟩
  · exact ⟨none, 0, rfl⟩
  · exact ⟨_, cap, rfl⟩

section
variable {P : Program} {w : World}
theorem run_append_row (t ty : TypeId) (base : Nat) (e : TypeId) (i : TypeInfo) (z : Value) (size bytes : Nat) (ht : P.underlying t = some (.slice e)) (hi : P.info? e = some i) (hz : i.zero = some z)
    (hsize : i.size = size) (hby : i.bytes = bytes) (hzs : z.cells.size = size) (hsz : 0 < size)
    (v : Value) (n : Nat) (xs : List Value) (hown : w.ownsRow base e size v n xs)
    (ad : Option Addr) (m c : Nat) (news : List Value) (hl : news.length = m * size) (hnews : (ad = none ∧ c = 0) ∨ ∃ p, ad = some p ∧ ∀ j u, news[j]? = some u → w.cell? (p.add j) = some u) (hnil : ad = none → m = 0) (h1 : ∀ u ∈ news, u.oneCell' = true)
    (h63 : n + m ≤ maxLen) (hbytes : (n + m) * bytes ≤ 140737488355328) (hbase : base ≤ w.heap.size) :
    ∃ a' cap w', (Builtin.append_ #[t, t] ty #[v, .slice ad m c]).run P w = .ok (.slice a' (n + m) cap) w' ∧
      w'.ownsRow base e size (.slice a' (n + m) cap) (n + m) (xs ++ news) ∧ w.grownBy w' v.ownBlock := by
  rcases hnews with ⟨rfl, rfl⟩ | ⟨p, rfl, hn⟩
  · obtain rfl := hnil rfl
    obtain rfl : news = [] := List.eq_nil_of_length_eq_zero (by omega)
    obtain ⟨a', c', rfl⟩ := own_sl hown
    exact ⟨a', c', w, run_append_owned_none (P := P) (w := w) base t ty e i size ht hi _ n xs hown, by simpa using hown, grown_refl _ _⟩
  · obtain ⟨v', w', hr, h2, h3, _, _⟩ := run_append_own_at (P := P) w base t ty e i z size bytes ht hi hz hsize hby hzs hsz v n xs hown p m c news hl hn h1 h63 hbytes hbase
    obtain ⟨a', c', rfl⟩ := own_sl h2
    exact ⟨a', c', w', hr, h2, h3⟩
theorem wp_append_row {o : Oper} {a : Act} {K : Act → World → Prop} {Q : Exit → Act → World → Prop} (s x : Operand) (t : TypeId)
    (ho : o.op = .call { callee := .builtin .append, args := #[s, x], argTypes := #[t, t] })
    (base : Nat) (e : TypeId) (i : TypeInfo) (z : Value) (size bytes : Nat) (ht : P.underlying t = some (.slice e)) (hi : P.info? e = some i) (hz : i.zero = some z)
    (hsize : i.size = size) (hby : i.bytes = bytes) (hzs : z.cells.size = size) (hsz : 0 < size)
    (v : Value) (n : Nat) (xs : List Value) (hs : a.eval s = v) (hown : w.ownsRow base e size v n xs)
    (ad : Option Addr) (m c : Nat) (news : List Value) (hx : a.eval x = .slice ad m c) (hl : news.length = m * size) (hnews : (ad = none ∧ c = 0) ∨ ∃ p, ad = some p ∧ ∀ j u, news[j]? = some u → w.cell? (p.add j) = some u) (hnil : ad = none → m = 0) (h1 : ∀ u ∈ news, u.oneCell' = true)
    (h63 : n + m ≤ maxLen) (hbytes : (n + m) * bytes ≤ 140737488355328) (hbase : base ≤ w.heap.size)
    (h : ∀ a' cap w', w'.ownsRow base e size (.slice a' (n + m) cap) (n + m) (xs ++ news) → w.grownBy w' v.ownBlock → K (a.put o.dst (.slice a' (n + m) cap)) w') : o.wp P a w K Q := by
  obtain ⟨a', cap, w', hr, h2, h3⟩ := run_append_row (P := P) (w := w) t o.type base e i z size bytes ht hi hz hsize hby hzs hsz v n xs hown ad m c news hl hnews hnil h1 h63 hbytes hbase
  unfold Oper.wp execOp
  simp only [ho, resolve, invoke, builtin, Sem.run_bind, Sem.run_pure, Result.andThen_ok, List.map_toArray, List.map_cons, List.map_nil, hs, hx, hr]
  exact h a' cap w' h2 h3
theorem wpList_append_row {ops : Array Oper} {rest : List Oper} {o : Oper} {a : Act} {Q : Exit → Act → World → Prop} (hgd : o.guard = none) (s x : Operand) (t : TypeId)
    (ho : o.op = .call { callee := .builtin .append, args := #[s, x], argTypes := #[t, t] })
    (base : Nat) (e : TypeId) (i : TypeInfo) (z : Value) (size bytes : Nat) (ht : P.underlying t = some (.slice e)) (hi : P.info? e = some i) (hz : i.zero = some z)
    (hsize : i.size = size) (hby : i.bytes = bytes) (hzs : z.cells.size = size) (hsz : 0 < size)
    (v : Value) (n : Nat) (xs : List Value) (hs : a.eval s = v) (hown : w.ownsRow base e size v n xs)
    (ad : Option Addr) (m c : Nat) (news : List Value) (hx : a.eval x = .slice ad m c) (hl : news.length = m * size) (hnews : (ad = none ∧ c = 0) ∨ ∃ p, ad = some p ∧ ∀ j u, news[j]? = some u → w.cell? (p.add j) = some u) (hnil : ad = none → m = 0) (h1 : ∀ u ∈ news, u.oneCell' = true)
    (h63 : n + m ≤ maxLen) (hbytes : (n + m) * bytes ≤ 140737488355328) (hbase : base ≤ w.heap.size)
    (h : ∀ a' cap w', w'.ownsRow base e size (.slice a' (n + m) cap) (n + m) (xs ++ news) → w.grownBy w' v.ownBlock → wpList P ops Q rest (a.put o.dst (.slice a' (n + m) cap)) w') : wpList P ops Q (o :: rest) a w :=
  wpList_plain hgd fun _ hK => wp_append_row s x t ho base e i z size bytes ht hi hz hsize hby hzs hsz v n xs hs hown ad m c news hx hl hnews hnil h1 h63 hbytes hbase fun a' cap w' h2 h3 => hK _ _ (h a' cap w' h2 h3)
theorem step_append_row {ops : Array Oper} {o : Oper} {a : Act} {K : Act → World → Prop} {Q : Exit → Act → World → Prop} {E : Prop} (hgd : o.guard = none) (s x : Operand) (t : TypeId)
    (ho : o.op = .call { callee := .builtin .append, args := #[s, x], argTypes := #[t, t] })
    (base : Nat) (e : TypeId) (i : TypeInfo) (z : Value) (size bytes : Nat) (ht : P.underlying t = some (.slice e)) (hi : P.info? e = some i) (hz : i.zero = some z)
    (hsize : i.size = size) (hby : i.bytes = bytes) (hzs : z.cells.size = size) (hsz : 0 < size)
    (v : Value) (n : Nat) (xs : List Value) (hs : a.eval s = v) (hown : w.ownsRow base e size v n xs)
    (ad : Option Addr) (m c : Nat) (news : List Value) (hx : a.eval x = .slice ad m c) (hl : news.length = m * size) (hnews : (ad = none ∧ c = 0) ∨ ∃ p, ad = some p ∧ ∀ j u, news[j]? = some u → w.cell? (p.add j) = some u) (hnil : ad = none → m = 0) (h1 : ∀ u ∈ news, u.oneCell' = true)
    (h63 : n + m ≤ maxLen) (hbytes : (n + m) * bytes ≤ 140737488355328) (hbase : base ≤ w.heap.size)
    (h : ∀ a' cap w', w'.ownsRow base e size (.slice a' (n + m) cap) (n + m) (xs ++ news) → w.grownBy w' v.ownBlock → K (a.put o.dst (.slice a' (n + m) cap)) w') :
    if Region.wanted o (yielded ops a.tmps) = true then Oper.wp P o a w K Q else E := by
  have hw : Region.wanted o (yielded ops a.tmps) = true := by simp [Region.wanted, hgd]
  rw [if_pos hw]
  exact wp_append_row s x t ho base e i z size bytes ht hi hz hsize hby hzs hsz v n xs hs hown ad m c news hx hl hnews hnil h1 h63 hbytes hbase h
end

/-- What a row of bytes tells an append. -/
theorem Reads.news' {w : World} {ad : Option Addr} {n c : Nat} {zs : List Int} (h : Reads w ad n zs) (hnil : ad = none → c = 0) : (ad = none ∧ c = 0) ∨ ∃ p, ad = some p ∧ ∀ j u, (bys zs)[j]? = some u → w.cell? (p.add j) = some u := by
  cases ad with
  | none => exact .inl ⟨rfl, hnil rfl⟩
  | some p => exact .inr ⟨p, rfl, h.news⟩
theorem Reads.nil0 {w : World} {ad : Option Addr} {n : Nat} {zs : List Int} (h : Reads w ad n zs) : ad = none → n = 0 := by
  rintro rfl
  rcases h.cells with h0 | ⟨b, off, e, _⟩
  · exact h0
  · cases e

theorem bel_al {a w : World} (h : Below a.heap.size a w) (o : Obj) : Below a.heap.size a (w.alloc o) := h.alloc h.size o

theorem bel_dN {B : Nat} {a w : World} (h : Below B a w) (k : Nat) : Below B a (w.drewN k) := h.trans (Below.drewN w k)

theorem heap_new2 (w : World) (a b : Obj) : ((w.alloc a).alloc b).heap[w.heap.size + 1]? = some b := by
  have := heap_alloc_new (w.alloc a) b
  rwa [alloc_size] at this

theorem heap_new1 (w : World) (a b : Obj) : ((w.alloc a).alloc b).heap[w.heap.size]? = some a := by
  rw [alloc_old _ _ _ (by simp)]
  exact heap_alloc_new w a

/-- A row of byte rows, one more appended to it. -/
theorem Bands.grow {wr X w1 : World} {base k : Nat} {a : Option Addr} {c : Nat} {xs : List Value} {ss : List (List Int)} {v : Value} {z : List Int} (hB : Bands wr base wr.heap.size xs ss) (hbase : base ≤ wr.heap.size) (bX : Below wr.heap.size wr X)
    (oX : X.ownsRow wr.heap.size 5 1 v z.length (bys z)) (bd : ∀ j, 0 ≤ z.getD j 0 ∧ z.getD j 0 ≤ 255) {e : TypeId} {s n : Nat} {cs : List Value} (hown : X.ownsRow base e s (.slice a k c) n cs) (hne : (5 : TypeId) ≠ e) (hg : X.grownBy w1 (Value.slice a k c).ownBlock) : Bands w1 base w1.heap.size (xs ++ [v]) (ss ++ [z]) := by
  have h1 := ((hB.agree (Agree.below bX (Nat.le_refl _))).snoc hbase bX.size oX bd (Nat.le_refl _)).mono (Nat.le_refl _) hg.size
  exact h1.beside hg (fun i => owns_ne (h1.own i) hown hne)

theorem cell_old {w : World} {a : Addr} {v : Value} (o : Obj) (h : w.cell? a = some v) : (w.alloc o).cell? a = some v := ((Below.alloc1 w o).cell (World.block_lt_of_cell? w a h)).trans h

theorem froz_old {w : World} {a : Addr} {v : Value} {b : Bool} (o : Obj) (h : w.cell? a = some v) (hf : w.frozen? a = b) : (w.alloc o).frozen? a = b := ((Below.alloc1 w o).frozen (World.block_lt_of_cell? w a h)).trans hf

end Go.Proofs.Ytioefplkadpfnaa
/- The contract of the specification's l7copy: the same page with memory of its own. Conditions: lists of at most 2^20 rows of at most 2^21 bytes. -/

namespace Go.Proofs.Ytioefplkadpfnaa
open Go.RowKit
set_option maxRecDepth 100000

set_option maxHeartbeats 6400000 in
theorem spec_l7copy (L : Int) {a0 : Option Addr} {n : Nat} (c0 : Nat) {ss : List (List Int)} {w : World} (h : ReadsS w a0 ss) (hl : ss.length = n) (hn : n ≤ 1048576) (hb : ∀ i, (ss.getD i []).length ≤ 2097152) :
    Calls Try.prog 57 #[.agg #[.int .i64 L, .slice a0 n c0]] w fun e w' => ∃ a1 c1, e = .returned (.agg #[.int .i64 L, .slice a1 n c1]) ∧ OwnP w' w.heap.size w'.heap.size (.slice a1 n c1) ss ∧ Below w.heap.size w w' := by
  obtain ⟨i0, hi, hz0, hz1, hz2⟩ := info_parts Try.info22
  obtain ⟨k0', ki, kz0, kz1, kz2⟩ := info_parts Try.info5
  obtain ⟨XZ, X1, X2, BW⟩ := three w (.cells #[.int .i64 L, .slice a0 n c0] 26) (.cells #[.int .i64 0, .slice none 0 0] 26) (.cells #[.int .i64 L, .slice none 0 0] 26)
  have X0 : (((w.alloc (.cells #[.int .i64 L, .slice a0 n c0] 26)).alloc (.cells #[.int .i64 0, .slice none 0 0] 26)).alloc (.cells #[.int .i64 L, .slice none 0 0] 26)).heap[w.heap.size]? = some (.cells #[.int .i64 L, .slice a0 n c0] 26) := by
    rw [alloc_old _ _ _ (by simp; omega), alloc_old _ _ _ (by simp)]
    exact heap_alloc_new _ _
  have HSB := hid hb
  have HH := hid h
  clear hb
  go_enter Try.func57, Try.ntmps57
  go_wp2
  generalize ((w.alloc (.cells #[.int .i64 L, .slice a0 n c0] 26)).alloc (.cells #[.int .i64 0, .slice none 0 0] 26)).alloc (.cells #[.int .i64 L, .slice none 0 0] 26) = W0 at *
  have HX0 := hid X0
  have HX1 := hid X1
  have HX2 := hid X2
  have HBW := hid BW
  have HXZ := hid XZ
  clear X0 X1 X2 BW XZ h
  go_loopw [4] (fun i wr => ∃ (k : Nat) (a : Option Addr) (c : Nat) (xs : List Value), k ≤ n ∧ i = .int .i64 k ∧ xs.length = k ∧ Hid (wr.heap[w.heap.size]? = some (.cells #[.int .i64 L, .slice a0 n c0] 26)) ∧ Hid (wr.heap[w.heap.size + 1]? = some (.cells #[.int .i64 0, .slice none 0 0] 26)) ∧ Hid (wr.heap[w.heap.size + 1 + 1]? = some (.cells #[.int .i64 L, .slice a k c] 26)) ∧ Hid (wr.ownsRow (w.heap.size + 3) 22 1 (.slice a k c) k xs) ∧ Hid (Bands wr (w.heap.size + 3) wr.heap.size xs (ss.take k)) ∧ Hid (Below w.heap.size w wr) ∧ Hid (w.heap.size + 3 ≤ wr.heap.size)) (fun i _ => n - (intOf i).toNat)
  case atStart => exact ⟨0, none, 0, [], Nat.zero_le _, rfl, rfl, HX0, HX1, HX2, hid (World.ownsRow_nil _ _ _ _), hid (by rw [List.take_zero]; exact Bands.nil _ _ _), HBW, hid (by have := HXZ.out; omega)⟩
  case round =>
    obtain ⟨k, a, c, xs, hk, rfl, hx, hr1, hr2, hr3, hown, hB, hnx, hsz⟩ := hrel
    have y0 : wr.cell? ⟨w.heap.size, 1, none⟩ = some (.slice a0 n c0) := by rw [cell_of_row _ _ _ _ _ _ hr1.out]; rfl
    by_cases hlt : k < n
    · have hlt' : (k : Int) < (n : Int) := by omega
      have hk0 : (0 : Int) ≤ (k : Int) := by omega
      have d0 : wr.cell? ⟨w.heap.size + 1 + 1, 1, none⟩ = some (.slice a k c) := by rw [cell_of_row _ _ _ _ _ _ hr3.out]; rfl
      have f0 : wr.frozen? ⟨w.heap.size + 1 + 1, 1, none⟩ = false := frozen_of_row _ _ _ _ _ hr3.out
      rcases HH.out.cells with h0 | ⟨b, off, rfl, hc⟩
      · omega
      obtain ⟨v, hcx0, ax, cx, rfl, hr0, hnil, _⟩ := hc k (by omega)
      have hbl := World.block_lt_of_cell? w _ hcx0
      have hcx : wr.cell? ⟨b, off + k, none⟩ = some (.slice ax (ss.getD k []).length cx) := (hnx.out.cell (by exact hbl)).trans hcx0
      have hr := hr0.below hnx.out (Nat.le_refl _)
      have HT := hid (take_snoc ss k [] (by omega))
      have Hbd := hid hr0.bd
      have hm2 := HSB.out k
      generalize ss.getD k [] = zs at *
      obtain ⟨m, hlen⟩ : ∃ m, zs.length = m := ⟨_, rfl⟩
      rw [hlen] at hcx hr hm2
      have HM := hid hlen
      have HR := hid hr
      have HNI := hid hnil
      have HK' := hid (show ∀ X, Below wr.heap.size wr X → X.cell? ⟨w.heap.size + 1 + 1, 1, none⟩ = some (.slice a k c) ∧ X.frozen? ⟨w.heap.size + 1 + 1, 1, none⟩ = false ∧ X.cell? ⟨w.heap.size, 1, none⟩ = some (.slice (some ⟨b, off, none⟩) n c0) ∧ X.cell? ⟨b, off + k, none⟩ = some (.slice ax m cx) from fun X bb => ⟨(bb.cell (p := ⟨w.heap.size + 1 + 1, 1, none⟩) (by have := hsz.out; show w.heap.size + 1 + 1 < _; omega)).trans d0, (bb.frozen (p := ⟨w.heap.size + 1 + 1, 1, none⟩) (by have := hsz.out; show w.heap.size + 1 + 1 < _; omega)).trans f0, (bb.cell (p := ⟨w.heap.size, 1, none⟩) (by have := hsz.out; show w.heap.size < _; omega)).trans y0, (bb.cell (p := ⟨b, off + k, none⟩) (World.block_lt_of_cell? wr _ hcx)).trans hcx⟩)
      have HNE := hid (show some (w.heap.size + 1 + 1) ≠ (Value.slice a k c).ownBlock from fun e => by have := (hown.out.lt _ e.symm).1; omega)
      have HNE0 := hid (show some w.heap.size ≠ (Value.slice a k c).ownBlock from fun e => by have := (hown.out.lt _ e.symm).1; omega)
      have HNEb := hid (show some b ≠ (Value.slice a k c).ownBlock from fun e => by have := (hown.out.lt _ e.symm).1; have : b < w.heap.size := hbl; omega)
      have H0 := hid (World.ownsRow_lit (base := wr.heap.size) (e := 5) (size := 1) wr #[] 0 (Nat.le_refl _) (Nat.zero_le _) rfl)
      clear hc hcx0 hr0 hlen hbl hr hnil
      go_wp2
      clear hcx y0 d0 f0
      refine region_K 12 (fun W => W.cell? ⟨w.heap.size + 1 + 1, 1, none⟩ = some (.slice a k c) ∧ W.frozen? ⟨w.heap.size + 1 + 1, 1, none⟩ = false ∧ W.cell? ⟨w.heap.size, 1, none⟩ = some (.slice (some ⟨b, off, none⟩) n c0) ∧ W.cell? ⟨b, off + k, none⟩ = some (.slice ax m cx)) (by kernel_rfl) ?_ (fun hHeld => ?_)
      · exact HK'.out _ ((Below.refl _ wr).drew)
      refine anyK_take (i := 0) (v := ?v101) rfl (by kernel_rfl) (by kernel_rfl) (by kernel_rfl) (by kernel_rfl) (fun _ _ _ h => h) (by rfl) hHeld ?hy101 (some 15) (by rfl) ?rest101
      case hy101 => (intro W hSw; (try dsimp only at hSw); go_simp; (try with_reducible rfl))
      try simp only [Act.put]
      try simp only [List.setIfInBounds_toArray]
      try simp only [List.set_cons_succ, List.set_cons_zero]
      refine anyK_take (i := 1) (v := ?v102) rfl (by kernel_rfl) (by kernel_rfl) (by kernel_rfl) (by kernel_rfl) (fun _ _ _ h => h) (by rfl) hHeld ?hy102 (some 16) (by rfl) ?rest102
      case hy102 => (intro W hSw; (try dsimp only at hSw); go_simp; (try with_reducible rfl))
      try simp only [Act.put]
      try simp only [List.setIfInBounds_toArray]
      try simp only [List.set_cons_succ, List.set_cons_zero]
      refine anyK_take (i := 3) (v := ?v103) rfl (by kernel_rfl) (by kernel_rfl) (by kernel_rfl) (by kernel_rfl) (fun _ _ _ h => h) (by rfl) hHeld ?hy103 (some 18) (by rfl) ?rest103
      case hy103 => (intro W hSw; (try dsimp only at hSw); go_simp; (try with_reducible rfl))
      try simp only [Act.put]
      try simp only [List.setIfInBounds_toArray]
      try simp only [List.set_cons_succ, List.set_cons_zero]
      refine anyK_take (i := 4) (v := ?v104) rfl (by kernel_rfl) (by kernel_rfl) (by kernel_rfl) (by kernel_rfl) (fun _ _ _ h => h) (by rfl) hHeld ?hy104 (some 19) (by rfl) ?rest104
      case hy104 => (intro W hSw; (try dsimp only at hSw); go_simp; (try with_reducible rfl))
      try simp only [Act.put]
      try simp only [List.setIfInBounds_toArray]
      try simp only [List.set_cons_succ, List.set_cons_zero]
      refine anyK_take (i := 5) (v := ?v105) rfl (by kernel_rfl) (by kernel_rfl) (by kernel_rfl) (by kernel_rfl) (fun _ _ _ h => h) (by rfl) hHeld ?hy105 (some 20) (by rfl) ?rest105
      case hy105 => (intro W hSw; (try dsimp only at hSw); go_simp; (try with_reducible rfl))
      try simp only [Act.put]
      try simp only [List.setIfInBounds_toArray]
      try simp only [List.set_cons_succ, List.set_cons_zero]
      refine anyK_take (i := 6) (v := ?v106) rfl (by kernel_rfl) (by kernel_rfl) (by kernel_rfl) (by kernel_rfl) (fun _ _ _ h => h) (by rfl) hHeld ?hy106 (some 21) (by rfl) ?rest106
      case hy106 => (intro W hSw; (try dsimp only at hSw); go_simp; (try with_reducible rfl))
      try simp only [Act.put]
      try simp only [List.setIfInBounds_toArray]
      try simp only [List.set_cons_succ, List.set_cons_zero]
      refine anyK_take (i := 7) (v := ?v107) rfl (by kernel_rfl) (by kernel_rfl) (by kernel_rfl) (by kernel_rfl) (fun _ _ _ h => h) (by rfl) hHeld ?hy107 (some 22) (by rfl) ?rest107
      case hy107 => (intro W hSw; (try dsimp only at hSw); go_simp; (try with_reducible rfl))
      try simp only [Act.put]
      try simp only [List.setIfInBounds_toArray]
      try simp only [List.set_cons_succ, List.set_cons_zero]
      refine anyK_step (i := 2) (by kernel_rfl) rfl (fun K hK => ?_)
      go_simp
      refine hK.out _ _ ?_ (fun hH2 => ?_)
      · exact HK'.out _ ((bel_al (Below.refl _ wr) _).drew)
      clear hK K hHeld
      have hHeld := hH2
      clear hH2
      try simp only [Act.put]
      try simp only [List.setIfInBounds_toArray]
      try simp only [List.set_cons_succ, List.set_cons_zero]
      refine anyK_step (i := 8) (by kernel_rfl) rfl (fun K hK => ?_)
      refine step_append_row (by rfl) _ _ _ (by rfl) wr.heap.size 5 k0' (.int .u8 0) 1 1 Try.underlying22 ki kz0 kz1 kz2 rfl (by omega) (.slice (some ⟨wr.heap.size, 0, none⟩) 0 0) 0 [] (by rfl) (by simpa using H0.out.drew) ax m cx (bys zs) (by rfl) (by rw [bys_length, HM.out, Nat.mul_one]) ((HR.out.below (bel_al (Below.refl _ wr) _).drew (Nat.le_refl _)).news' HNI.out) HR.out.nil0 (bys_one _) (by unfold maxLen; omega) (by omega) (by simp) ?_
      intro av cv u hob hgb
      rw [Nat.zero_add, List.nil_append] at hob
      have bu := ((bel_al (Below.refl wr.heap.size wr) (.cells #[] 5)).drew).grown hgb (by simp) (fun q hq => by cases hq; exact Nat.le_refl _)
      have HO1 := hid hob
      have HBU := hid bu
      clear hob hgb bu
      simp only [Nat.zero_add]
      refine hK.out _ _ ?_ (fun hH2 => ?_)
      · exact HK'.out _ HBU.out
      clear hK K hHeld
      have hHeld := hH2
      clear hH2
      try simp only [Act.put]
      try simp only [List.setIfInBounds_toArray]
      try simp only [List.set_cons_succ, List.set_cons_zero]
      refine anyK_step (i := 9) (by kernel_rfl) rfl (fun K hK => ?_)
      go_simp
      refine hK.out _ _ ?_ (fun hH2 => ?_)
      · exact HK'.out _ (bel_al HBU.out _)
      clear hK K hHeld
      have hHeld := hH2
      clear hH2
      try simp only [Act.put]
      try simp only [List.setIfInBounds_toArray]
      try simp only [List.set_cons_succ, List.set_cons_zero]
      refine anyK_step (i := 10) (by kernel_rfl) rfl (fun K hK => ?_)
      refine step_append_row (by rfl) _ _ _ (by rfl) (w.heap.size + 3) 22 i0 (.slice none 0 0) 1 24 Try.underlying24 hi hz0 hz1 hz2 rfl (by omega) (.slice a k c) k xs (by rfl) (owns_below (bel_al HBU.out _) (Nat.le_refl _) hown.out) (some ⟨u.heap.size, 0, none⟩) 1 1 [.slice av m cv] (by rfl) rfl (.inr ⟨_, rfl, World.news_of_block (heap_alloc_new u _)⟩) (fun e => by cases e) (by simp [Value.oneCell']) (by unfold maxLen; omega) (by omega) (by have := hsz.out; have := HBU.out.size; simp; omega) ?_
      intro g' cap w1 hown1 hgrow
      obtain ⟨s1, s2, s3, s4⟩ := HK'.out _ (bel_al HBU.out (.cells #[.slice av m cv] 22))
      have k0 := hgrow.cell s1 HNE.out
      have k1 := (hgrow.frozen_far ⟨w.heap.size + 1 + 1, 1, none⟩ (by have := hsz.out; have := HBU.out.size; simp; omega) HNE.out).trans s2
      have k2 := hgrow.cell s3 HNE0.out
      have k3 := hgrow.cell s4 HNEb.out
      clear s1 s2 s3 s4
      refine hK.out _ _ ?_ (fun hH2 => ?_)
      · exact ⟨k0, k1, k2, k3⟩
      clear hK K hHeld
      have hHeld := hH2
      clear hH2
      try simp only [Act.put]
      try simp only [List.setIfInBounds_toArray]
      try simp only [List.set_cons_succ, List.set_cons_zero]
      refine anyK_take (i := 11) (v := ?v112) rfl (by kernel_rfl) (by kernel_rfl) (by kernel_rfl) (by kernel_rfl) (fun _ _ _ h => h) (by rfl) hHeld ?hy112 (some 26) (by rfl) ?rest112
      case hy112 => (intro W hSw; (try dsimp only at hSw); go_simp; (try with_reducible rfl))
      try simp only [Act.put]
      try simp only [List.setIfInBounds_toArray]
      try simp only [List.set_cons_succ, List.set_cons_zero]
      refine anyK_last (by kernel_rfl) rfl (fun K hK => ?_)
      go_simp
      refine hK.out _ _ ?_
      clear hK K hHeld
      refine anyK_done (by kernel_rfl) ?_ _
      have bX := bel_al HBU.out (.cells #[.slice av m cv] 22)
      have hB1 := hB.out.grow hsz.out bX (by rw [HM.out]; exact HO1.out.alloc _) Hbd.out (owns_below bX (Nat.le_refl _) hown.out) (by decide) hgrow
      rw [← HT.out] at hB1
      have V1 : w1.heap[w.heap.size]? = _ := (hgrow.block w.heap.size (by have := bX.size; have := hsz.out; omega) HNE0.out).trans ((bX.block w.heap.size (by have := hsz.out; omega)).trans hr1.out)
      have V2 : w1.heap[w.heap.size + 1]? = _ := (hgrow.block (w.heap.size + 1) (by have := bX.size; have := hsz.out; omega) (fun e => by have := (hown.out.lt _ e.symm).1; omega)).trans ((bX.block (w.heap.size + 1) (by have := hsz.out; omega)).trans hr2.out)
      have V3 : w1.heap[w.heap.size + 1 + 1]? = _ := (hgrow.block (w.heap.size + 1 + 1) (by have := bX.size; have := hsz.out; omega) HNE.out).trans ((bX.block (w.heap.size + 1 + 1) (by have := hsz.out; omega)).trans hr3.out)
      have U1 := hid ((heap_set_ne w1 (w.heap.size + 1 + 1) 1 w.heap.size (.slice g' (k + 1) cap) (by omega)).trans V1)
      have U2 := hid ((heap_set_ne w1 (w.heap.size + 1 + 1) 1 (w.heap.size + 1) (.slice g' (k + 1) cap) (by omega)).trans V2)
      have U3 := hid (heap_setCell_same w1 (w.heap.size + 1 + 1) 1 _ 26 (.slice g' (k + 1) cap) V3)
      have ag : Agree (w.heap.size + 3) w1.heap.size w1 (w1.setCell ⟨w.heap.size + 1 + 1, 1, none⟩ (.slice g' (k + 1) cap)) := fun q h1 _ => heap_set_ne _ _ _ _ _ (by omega)
      have HO := hid (owns_agree hown1 ag (fun q hq => hown1.lt q hq))
      have HBs := hid (hB1.agree ag)
      have HBl := hid (((hnx.out.trans (bX.mono hnx.out.size)).grown hgrow (Nat.le_trans hnx.out.size bX.size) (fun q hq => by have := (hown.out.lt q hq).1; omega)).setCell (p := ⟨w.heap.size + 1 + 1, 1, none⟩) (by simp; omega) (.slice g' (k + 1) cap))
      have HSz := hid (show w.heap.size + 3 ≤ w1.heap.size by have := hsz.out; have := bX.size; have := hgrow.size; omega)
      clear bX hB1 V1 V2 V3 ag hown1 hgrow k0 k1 k2 k3 hr1 hr2 hr3 hown hB hnx hsz HK' HNE HNE0 HNEb HBU HO1 HR H0
      go_wp2
      go_roundw
      case rel => exact ⟨k + 1, g', cap, xs ++ [.slice av m cv], by omega, by go_num, by simp [hx], U1, U2, U3, HO, hid (by simpa using HBs.out), HBl, hid (by simpa using HSz.out)⟩
      case measure => simp [intOf]; omega
    · have hlt' : ¬ (k : Int) < (n : Int) := by omega
      obtain rfl : k = n := by omega
      have hBs := hB.out
      rw [List.take_of_length_le (by omega)] at hBs
      have OW := hid (show OwnP wr (w.heap.size + 3) wr.heap.size (.slice a k c) ss from ⟨⟨xs, by rw [hl]; exact hown.out, hBs⟩, fun g hg => (hown.out.lt g hg).2⟩)
      clear hB hBs hown
      go_wp2_with (first
        | (refine wpList_load_row rfl 26 (.tmp 3) rfl (w.heap.size + 1 + 1) rfl 26 _ (0, 0) _ hr3.out Try.underlying26 rfl size_pg ?_)
        | (refine wpList_store_row rfl 26 (.tmp 2) (.tmp 27) rfl (w.heap.size + 1) #[.int .i64 L, .slice a k c] rfl rfl 26 _ hr2.out ?s1 ?s2 ?s3 ?_))
      case s1 => simpa using size_pg
      case s3 => simp [Value.oneCell']
      have hz := hsz.out
      refine bodyPost_ret (results_cell_row Try.results57 _ _ (w.heap.size + 1) 26 #[.int .i64 L, .slice a k c] (0, 0) _ rfl (setRow_heap _ _ _ _ _ _ hr2.out) Try.underlying26 rfl size_pg) rfl ⟨a, c, rfl, ((OW.out.agree fun q h1 h2 => ?_).mono (by omega) (by simp)), below_setRow hnx.out (by omega) _⟩
      rw [setRow_other _ _ _ _ (by omega)]
end Go.Proofs.Ytioefplkadpfnaa
/- Pages, plain: what is one, how much is used of it, where bytes would come, what is put and cleared. No program, no conditions. -/

namespace Go.Proofs.Ytioefplkadpfnaa

/-- The last slot is free. -/
def endF (ss : List (List Int)) : Bool := decide (0 < ss.length ∧ (ss.getD (ss.length - 1) []).length = 0)
/-- A slot is too long. -/
def anyL (ss : List (List Int)) : Bool := ss.any fun z => decide (92 < z.length)
def okP (L : Int) (ss : List (List Int)) : Bool := decide (0 ≤ L ∧ L ≤ 1000000) && decide (ss.length ≤ 16) && !endF ss && !anyL ss && decide (1 + ss.length + tot ss ≤ 240)
def usedP (L : Int) (ss : List (List Int)) : Int := if okP L ss = true then 1 + (ss.length : Int) + (tot ss : Int) else -1

structure OkP (L : Int) (ss : List (List Int)) : Prop where
  l0 : 0 ≤ L
  l1 : L ≤ 1000000
  n : ss.length ≤ 16
  e : 0 < ss.length → 0 < (ss.getD (ss.length - 1) []).length
  z : ∀ i, (ss.getD i []).length ≤ 92
  t : 1 + ss.length + tot ss ≤ 240

theorem anyL_at {ss : List (List Int)} (h : anyL ss = false) (i : Nat) : (ss.getD i []).length ≤ 92 := by
  by_cases hi : i < ss.length
  · have := List.any_eq_false.1 h (ss.getD i []) (by simp [List.getD, hi])
    simpa using this
  · rw [List.getD_eq_getElem?_getD, List.getElem?_eq_none (by omega)]; simp
theorem anyL_no {ss : List (List Int)} (h : ∀ i, i < ss.length → (ss.getD i []).length ≤ 92) : anyL ss = false := by
  refine List.any_eq_false.2 fun x hx => ?_
  obtain ⟨i, hi, rfl⟩ := List.mem_iff_getElem.1 hx
  have := h i hi
  simp [List.getD, hi] at this
  simpa using this
theorem anyL_yes {ss : List (List Int)} {i : Nat} (h : 92 < (ss.getD i []).length) : anyL ss = true := by
  cases e : anyL ss with
  | true => rfl
  | false => have := anyL_at e i; omega

theorem okP_of {L : Int} {ss : List (List Int)} (h : okP L ss = true) : OkP L ss := by
  unfold okP at h
  simp only [Bool.and_eq_true, decide_eq_true_eq, Bool.not_eq_true'] at h
  obtain ⟨⟨⟨⟨h1, h2⟩, h3⟩, h4⟩, h5⟩ := h
  refine ⟨h1.1, h1.2, h2, fun h0 => ?_, anyL_at h4, h5⟩
  unfold endF at h3
  have := of_decide_eq_false h3
  omega
theorem okP_mk {L : Int} {ss : List (List Int)} (h : OkP L ss) : okP L ss = true := by
  unfold okP
  simp only [Bool.and_eq_true, decide_eq_true_eq, Bool.not_eq_true']
  refine ⟨⟨⟨⟨⟨h.l0, h.l1⟩, h.n⟩, ?_⟩, anyL_no fun i _ => h.z i⟩, h.t⟩
  unfold endF
  refine decide_eq_false ?_
  rintro ⟨h1, h2⟩
  have := h.e h1
  omega
theorem usedP_yes {L : Int} {ss : List (List Int)} (h : okP L ss = true) : usedP L ss = 1 + (ss.length : Int) + (tot ss : Int) := by unfold usedP; rw [if_pos h]
theorem usedP_no {L : Int} {ss : List (List Int)} (h : okP L ss = false) : usedP L ss = -1 := by unfold usedP; rw [if_neg (by simp [h])]
theorem usedP_bd {L : Int} {ss : List (List Int)} : (okP L ss = false ∧ usedP L ss = -1) ∨ (okP L ss = true ∧ 1 ≤ usedP L ss ∧ usedP L ss ≤ 240) := by
  cases h : okP L ss with
  | false => exact .inl ⟨rfl, usedP_no h⟩
  | true => have := (okP_of h).t; exact .inr ⟨rfl, by rw [usedP_yes h]; omega, by rw [usedP_yes h]; omega⟩

/-- The first free slot, if there is one. -/
def freeP (ss : List (List Int)) : Option Nat := ss.findIdx? fun z => z.length == 0
theorem freeP_some {ss : List (List Int)} {k : Nat} (hk : k < ss.length) (h : (ss.getD k []).length = 0) (hj : ∀ j, j < k → (ss.getD j []).length ≠ 0) : freeP ss = some k := by
  unfold freeP
  rw [List.findIdx?_eq_some_iff_getElem]
  refine ⟨hk, by simpa [List.getD, hk] using h, fun j hjk => ?_⟩
  have := hj j hjk
  simpa [List.getD, show j < ss.length by omega] using this
theorem freeP_none {ss : List (List Int)} (h : ∀ j, j < ss.length → (ss.getD j []).length ≠ 0) : freeP ss = none := by
  unfold freeP
  rw [List.findIdx?_eq_none_iff]
  intro x hx
  obtain ⟨i, hi, rfl⟩ := List.mem_iff_getElem.1 hx
  have := h i hi
  simpa [List.getD, hi] using this
theorem freeP_is {ss : List (List Int)} {k : Nat} (h : freeP ss = some k) : k < ss.length ∧ (ss.getD k []).length = 0 ∧ ∀ j, j < k → (ss.getD j []).length ≠ 0 := by
  unfold freeP at h
  rw [List.findIdx?_eq_some_iff_getElem] at h
  obtain ⟨hk, h1, h2⟩ := h
  refine ⟨hk, by simpa [List.getD, hk] using h1, fun j hj => ?_⟩
  have := h2 j hj
  simpa [List.getD, show j < ss.length by omega] using this
theorem freeP_not {ss : List (List Int)} (h : freeP ss = none) (j : Nat) (hj : j < ss.length) : (ss.getD j []).length ≠ 0 := by
  unfold freeP at h
  rw [List.findIdx?_eq_none_iff] at h
  have := h (ss.getD j []) (by simp [List.getD, hj])
  simpa using this

/-- Behind the last slot, if there is room. -/
def backP (L : Int) (ss : List (List Int)) (n : Int) : Int := if ss.length < 16 ∧ usedP L ss + 1 + n ≤ 240 then (ss.length : Int) else -1
def placeP (L : Int) (ss : List (List Int)) (n : Int) : Int :=
  if okP L ss = false ∨ ¬ (1 ≤ n ∧ n ≤ 92) then -1 else
  match freeP ss with
  | some k => if usedP L ss + n ≤ 240 then (k : Int) else backP L ss n
  | none => backP L ss n
theorem placeP_no {L : Int} {ss : List (List Int)} {n : Int} (h : okP L ss = false ∨ ¬ (1 ≤ n ∧ n ≤ 92)) : placeP L ss n = -1 := by unfold placeP; rw [if_pos h]
theorem placeP_free {L : Int} {ss : List (List Int)} {n : Int} (h : okP L ss = true) (hn : 1 ≤ n ∧ n ≤ 92) {k : Nat} (hf : freeP ss = some k) (hu : usedP L ss + n ≤ 240) : placeP L ss n = k := by
  unfold placeP; rw [if_neg (by rw [h]; simpa using hn), hf]; simp only [if_pos hu]
theorem placeP_full {L : Int} {ss : List (List Int)} {n : Int} (h : okP L ss = true) (hn : 1 ≤ n ∧ n ≤ 92) {k : Nat} (hf : freeP ss = some k) (hu : ¬ usedP L ss + n ≤ 240) : placeP L ss n = backP L ss n := by
  unfold placeP; rw [if_neg (by rw [h]; simpa using hn), hf]; simp only [if_neg hu]
theorem placeP_none {L : Int} {ss : List (List Int)} {n : Int} (h : okP L ss = true) (hn : 1 ≤ n ∧ n ≤ 92) (hf : freeP ss = none) : placeP L ss n = backP L ss n := by
  unfold placeP; rw [if_neg (by rw [h]; simpa using hn), hf]

/-- Free slots at the end left out. -/
def trimP (ss : List (List Int)) : List (List Int) := (ss.reverse.dropWhile fun z => z.length == 0).reverse
theorem trimP_nil : trimP [] = [] := rfl
theorem trimP_end (ss : List (List Int)) (z : List Int) (h : z.length ≠ 0) : trimP (ss ++ [z]) = ss ++ [z] := by
  have e : (z.length == 0) = false := by simpa using h
  simp [trimP, e]
theorem trimP_free (ss : List (List Int)) (z : List Int) (h : z.length = 0) : trimP (ss ++ [z]) = trimP ss := by
  have e : (z.length == 0) = true := by simpa using h
  simp [trimP, e]
theorem trimP_ok {ss : List (List Int)} (h : 0 < ss.length → 0 < (ss.getD (ss.length - 1) []).length) : trimP ss = ss := by
  rcases List.eq_nil_or_concat ss with rfl | ⟨xs, z, rfl⟩
  · rfl
  · rw [List.concat_eq_append]
    refine trimP_end xs z ?_
    have := h (by simp)
    simp [List.getD] at this
    have h2 : z.length = 0 ↔ z = [] := List.length_eq_zero_iff
    omega
/-- What is left is the beginning up to the last slot that is not free. -/
theorem trimP_take (ss : List (List Int)) : ∀ k, k ≤ ss.length → (∀ j, k ≤ j → j < ss.length → (ss.getD j []).length = 0) → trimP ss = trimP (ss.take k) := by
  intro k hk h
  obtain ⟨m, hm⟩ : ∃ m, ss.length - k = m := ⟨_, rfl⟩
  induction m generalizing k with
  | zero => rw [List.take_of_length_le (by omega)]
  | succ m ih =>
    have e := ih (k + 1) (by omega) (fun j h1 h2 => h j (by omega) h2) (by omega)
    rw [e, List.take_succ_eq_append_getElem (by omega : k < ss.length)]
    refine trimP_free _ _ ?_
    have := h k (Nat.le_refl _) (by omega)
    simpa [List.getD, show k < ss.length by omega] using this
theorem trimP_stop {ss : List (List Int)} {k : Nat} (hk : k < ss.length) (h : (ss.getD k []).length ≠ 0) (hj : ∀ j, k < j → j < ss.length → (ss.getD j []).length = 0) : trimP ss = ss.take (k + 1) := by
  rw [trimP_take ss (k + 1) (by omega) (fun j h1 h2 => hj j (by omega) h2), List.take_succ_eq_append_getElem hk]
  refine trimP_end _ _ ?_
  simpa [List.getD, hk] using h
theorem trimP_all {ss : List (List Int)} (hj : ∀ j, j < ss.length → (ss.getD j []).length = 0) : trimP ss = [] := by
  rw [trimP_take ss 0 (Nat.zero_le _) (fun j _ h2 => hj j h2)]; rfl
theorem trimP_len (ss : List (List Int)) : (trimP ss).length ≤ ss.length := by
  unfold trimP
  have := (List.dropWhile_suffix (fun z : List Int => z.length == 0) (l := ss.reverse)).length_le
  simpa using this
theorem trimP_pre (ss : List (List Int)) : trimP ss = ss.take (trimP ss).length := by
  obtain ⟨t, ht⟩ := List.dropWhile_suffix (fun z : List Int => z.length == 0) (l := ss.reverse)
  have e : ss = trimP ss ++ t.reverse := by
    have := congrArg List.reverse ht
    simp only [List.reverse_append, List.reverse_reverse] at this
    exact this.symm
  conv => rhs; rw [e]
  have h2 : (trimP (trimP ss ++ t.reverse)).length = (trimP ss).length := by rw [← e]
  rw [h2]
  simp
theorem trimP_last (ss : List (List Int)) : 0 < (trimP ss).length → 0 < ((trimP ss).getD ((trimP ss).length - 1) []).length := by
  induction hn : ss.length generalizing ss with
  | zero =>
    obtain rfl := List.eq_nil_of_length_eq_zero hn
    intro h; simp [trimP] at h
  | succ n ih =>
    rcases List.eq_nil_or_concat ss with rfl | ⟨xs, z, rfl⟩
    · simp at hn
    · rw [List.concat_eq_append] at hn ⊢
      by_cases h : z.length = 0
      · rw [trimP_free xs z h]
        exact ih xs (by simpa using hn)
      · rw [trimP_end xs z h]
        intro _
        simp [List.getD]
        omega

/-- The slots with this one laid in. -/
def layP (ss : List (List Int)) (slot : Nat) (z : List Int) : List (List Int) := (ss ++ List.replicate (slot + 1 - ss.length) []).set slot z
theorem layP_length (ss : List (List Int)) (slot : Nat) (z : List Int) : (layP ss slot z).length = max ss.length (slot + 1) := by simp [layP]; omega
theorem layP_at (ss : List (List Int)) (slot : Nat) (z : List Int) (i : Nat) : (layP ss slot z).getD i [] = if i = slot then z else ss.getD i [] := by
  unfold layP
  rw [getD_set' _ _ _ _ _ (by simp; omega)]
  by_cases h : i = slot
  · rw [if_pos h, if_pos h]
  · rw [if_neg h, if_neg h, getD_app]
    by_cases h2 : i < ss.length
    · rw [if_pos h2]
    · rw [if_neg h2]
      rw [List.getD_eq_getElem?_getD, List.getD_eq_getElem?_getD, List.getElem?_eq_none (l := ss) (by omega), List.getElem?_replicate]
      split <;> simp
def zeroP : Int × List (List Int) := (0, [])
def putOk (L : Int) (ss : List (List Int)) (slot : Int) (z : List Int) (lsn : Int) : Bool :=
  okP L ss && decide (0 ≤ slot ∧ slot ≤ 15) && decide (1 ≤ z.length ∧ z.length ≤ 92) && decide (1 ≤ lsn ∧ lsn ≤ 1000000) && okP lsn (layP ss slot.toNat z)
def putP (L : Int) (ss : List (List Int)) (slot : Int) (z : List Int) (lsn : Int) : Int × List (List Int) := if putOk L ss slot z lsn = true then (lsn, layP ss slot.toNat z) else zeroP
def clearOk (L : Int) (ss : List (List Int)) (slot : Int) (lsn : Int) : Bool := okP L ss && decide (0 ≤ slot ∧ slot ≤ (ss.length : Int) - 1) && decide (1 ≤ lsn ∧ lsn ≤ 1000000)
def clearP (L : Int) (ss : List (List Int)) (slot : Int) (lsn : Int) : Int × List (List Int) := if clearOk L ss slot lsn = true then (lsn, trimP (layP ss slot.toNat [])) else zeroP

theorem lay_end {L : Int} {ss : List (List Int)} (h : okP L ss = true) {slot : Nat} {z : List Int} (hz : 0 < z.length) : 0 < (layP ss slot z).length → 0 < ((layP ss slot z).getD ((layP ss slot z).length - 1) []).length := by
  intro _
  rw [layP_at, layP_length]
  by_cases e : max ss.length (slot + 1) - 1 = slot
  · rw [if_pos e]; exact hz
  · rw [if_neg e]
    have h1 : max ss.length (slot + 1) = ss.length := by omega
    rw [h1]
    exact (okP_of h).e (by omega)
theorem lay_trim {L : Int} {ss : List (List Int)} (h : okP L ss = true) {slot : Nat} {z : List Int} (hz : 0 < z.length) : trimP (layP ss slot z) = layP ss slot z := trimP_ok (lay_end h hz)
end Go.Proofs.Ytioefplkadpfnaa
/- The contracts of both PageUsed, of l5in, within, isPage, endsFree and of the library's IndexFunc and ContainsFunc over slots. Conditions: lists of at most 2^47 bytes. -/


namespace Go.Proofs.Ytioefplkadpfnaa
open Go.RowKit
set_option maxRecDepth 100000

theorem spec_inP (n lo hi : Int) (w : World) : Calls Try.prog 56 #[.int .i64 n, .int .i64 lo, .int .i64 hi] w fun e w' => e = .returned (.bool (decide (lo ≤ n ∧ n ≤ hi))) ∧ w' = w := by
  by_cases h1 : lo ≤ n
  · by_cases h2 : n ≤ hi
    · rw [decide_eq_true ⟨h1, h2⟩]
      go_enter Try.func56, Try.ntmps56
      go_wp2
      go_ret
      exact ⟨rfl, rfl⟩
    · rw [decide_eq_false (by omega)]
      go_enter Try.func56, Try.ntmps56
      go_wp2
      go_ret
      exact ⟨rfl, rfl⟩
  · rw [decide_eq_false (by omega)]
    go_enter Try.func56, Try.ntmps56
    go_wp2
    go_ret
    exact ⟨rfl, rfl⟩
theorem impl_inP (n lo hi : Int) (w : World) : Calls Try.prog 52 #[.int .i64 n, .int .i64 lo, .int .i64 hi] w fun e w' => e = .returned (.bool (decide (lo ≤ n ∧ n ≤ hi))) ∧ w' = w := by
  by_cases h1 : lo ≤ n
  · by_cases h2 : n ≤ hi
    · rw [decide_eq_true ⟨h1, h2⟩]
      go_enter Try.func52, Try.ntmps52
      go_wp2
      go_ret
      exact ⟨rfl, rfl⟩
    · rw [decide_eq_false (by omega)]
      go_enter Try.func52, Try.ntmps52
      go_wp2
      go_ret
      exact ⟨rfl, rfl⟩
  · rw [decide_eq_false (by omega)]
    go_enter Try.func52, Try.ntmps52
    go_wp2
    go_ret
    exact ⟨rfl, rfl⟩
theorem impl_isFree (a : Option Addr) (n c : Nat) (w : World) : Calls Try.prog 53 #[.slice a n c] w fun e w' => e = .returned (.bool (decide (n = 0))) ∧ w' = w := by
  by_cases h : n = 0
  · subst h
    go_enter Try.func53, Try.ntmps53
    go_wp2
    go_ret
    exact ⟨rfl, rfl⟩
  · have q : ((n : Int) == 0) = false := by simpa using h
    rw [decide_eq_false h]
    go_enter Try.func53, Try.ntmps53
    go_wp2
    go_ret
    exact ⟨rfl, rfl⟩
theorem impl_isTooLong (a : Option Addr) (n c : Nat) (w : World) : Calls Try.prog 54 #[.slice a n c] w fun e w' => e = .returned (.bool (decide (92 < n))) ∧ w' = w := by
  by_cases h : 92 < n
  · have q : (92 : Int) < (n : Int) := by omega
    rw [decide_eq_true h]
    go_enter Try.func54, Try.ntmps54
    go_wp2
    go_ret
    exact ⟨rfl, rfl⟩
  · have q : ¬ (92 : Int) < (n : Int) := by omega
    rw [decide_eq_false h]
    go_enter Try.func54, Try.ntmps54
    go_wp2
    go_ret
    exact ⟨rfl, rfl⟩

theorem okP_L {L : Int} {ss : List (List Int)} (h : ¬ (0 ≤ L ∧ L ≤ 1000000)) : okP L ss = false := by
  cases e : okP L ss with
  | false => rfl
  | true => exact absurd ⟨(okP_of e).l0, (okP_of e).l1⟩ h
theorem okP_n {L : Int} {ss : List (List Int)} (h : ¬ ss.length ≤ 16) : okP L ss = false := by
  cases e : okP L ss with
  | false => rfl
  | true => exact absurd (okP_of e).n h
theorem okP_z {L : Int} {ss : List (List Int)} {i : Nat} (h : 92 < (ss.getD i []).length) : okP L ss = false := by
  cases e : okP L ss with
  | false => rfl
  | true => have := (okP_of e).z i; omega
theorem okP_e {L : Int} {ss : List (List Int)} (h0 : 0 < ss.length) (h : (ss.getD (ss.length - 1) []).length = 0) : okP L ss = false := by
  cases e : okP L ss with
  | false => rfl
  | true => have := (okP_of e).e h0; omega
theorem okP_t {L : Int} {ss : List (List Int)} (h : ¬ 1 + ss.length + tot ss ≤ 240) : okP L ss = false := by
  cases e : okP L ss with
  | false => rfl
  | true => have := (okP_of e).t; omega

set_option maxHeartbeats 3200000 in
theorem spec_PageUsed (L : Int) {a : Option Addr} {n : Nat} (c : Nat) {ss : List (List Int)} {w : World} (h : ReadsS w a ss) (hl : ss.length = n) :
    Calls Try.prog 21 #[.agg #[.int .i64 L, .slice a n c]] w fun e w' => e = .returned (.int .i64 (usedP L ss)) ∧ Below w.heap.size w w' := by
  have hA := Below.alloc1 w (.cells #[.int .i64 L, .slice a n c] 26)
  have X0 := BoxP.new w L a n c 26
  have i1 := spec_inP L 0 1000000
  by_cases h1 : 0 ≤ L ∧ L ≤ 1000000
  · rw [decide_eq_true h1] at i1
    by_cases h2 : n ≤ 16
    · have q2 : ¬ (16 : Int) < (n : Int) := by omega
      have HA := hid hA
      have h3 := hid (h.below hA (Nat.le_refl _))
      clear hA h
      go_enter Try.func21, Try.ntmps21
      go_wp2_with fail
      refine (i1 _).mono ?_
      rintro e w1 ⟨rfl, e1⟩
      subst w1
      clear i1
      obtain ⟨c0, c1⟩ := X0
      go_wp2_with fail
      generalize w.alloc (.cells #[.int .i64 L, .slice a n c] 26) = W at *
      go_loopw [3, 4] (fun s i wr => ∃ k t m : Nat, k ≤ n ∧ i = .int .i64 k ∧ s = .int .i64 (1 + (n : Int) + (t : Int)) ∧ t ≤ 1500 ∧ Hid (t = tot (ss.take k) ∧ t ≤ 92 * k ∧ ∀ j, j < k → (ss.getD j []).length ≤ 92) ∧ wr = W.drewN m) (fun _ i _ => n - (intOf i).toNat)
      case atStart => exact ⟨0, 0, 0, Nat.zero_le _, rfl, by simp, by omega, hid ⟨by simp [tot], by omega, fun j hj => by omega⟩, rfl⟩
      case round =>
        obtain ⟨k, t, m, hk, rfl, rfl, ht, HT, rfl⟩ := hrel
        by_cases hlt : k < n
        · have hlt' : (k : Int) < (n : Int) := by omega
          have hk0 : (0 : Int) ≤ (k : Int) := by omega
          rcases h3.out.cells with h0 | ⟨b, off, rfl, hc⟩
          · omega
          obtain ⟨v, hcx, a, c', rfl, hr0, _, _⟩ := hc k (by omega)
          have HS := hid (tot_step ss k (by omega))
          obtain ⟨z, hz⟩ : ∃ z, (ss.getD k []).length = z := ⟨_, rfl⟩
          rw [hz] at hcx HS
          have HZ := hid hz
          clear hc hr0 hz
          by_cases hb : 92 < z
          · have hb' : (92 : Int) < (z : Int) := by omega
            have HO := hid (usedP_no (okP_z (L := L) (ss := ss) (i := k) (by rw [HZ.out]; exact hb)))
            go_wp2
            go_ret
            exact ⟨by rw [HO.out]; rfl, HA.out.trans ((Still.drewN _ _).below _)⟩
          · have hb' : ¬ (92 : Int) < (z : Int) := by omega
            go_wp2
            try go_quiet (fail)
            try go_wp2
            go_roundw
            case rel => exact ⟨k + 1, t + z, _, by omega, by go_num, by go_num, by have := HT.out.2.1; omega, hid ⟨by rw [HS.out, ← HT.out.1], by have := HT.out.2.1; omega, fun j hj => by by_cases e : j = k; (subst e; rw [HZ.out]; omega); exact HT.out.2.2 j (by omega)⟩, rfl⟩
            case measure => simp [intOf]; omega
        · obtain rfl : k = n := by omega
          have hlt' : ¬ (k : Int) < (k : Int) := by omega
          have HT1 := hid (show t = tot ss by rw [HT.out.1, List.take_of_length_le (by omega)])
          have HB := hid (HA.out.trans ((Still.drewN W m).below _))
          by_cases hk0 : k = 0
          · subst hk0
            obtain rfl := List.eq_nil_of_length_eq_zero hl
            obtain rfl : t = 0 := HT1.out
            have HO := hid (show usedP L [] = 1 from usedP_yes (ss := []) (okP_mk ⟨h1.1, h1.2, by simp, by simp, by simp, by simp [tot]⟩))
            go_wp2
            go_ret
            exact ⟨by rw [HO.out]; rfl, HB.out⟩
          have hk1 : (0 : Int) < (k : Int) := by omega
          rcases h3.out.cells with h0 | ⟨b, off, rfl, hc⟩
          · omega
          obtain ⟨q, hq⟩ : ∃ q, k - 1 = q := ⟨_, rfl⟩
          have hq1 : (k : Int) - 1 = (q : Int) := by omega
          have hq2 : (0 : Int) ≤ (q : Int) := by omega
          have hq3 : (q : Int) < (k : Int) := by omega
          obtain ⟨v, hcx, a, c', rfl, hr0, _, _⟩ := hc q (by omega)
          obtain ⟨z, hz⟩ : ∃ z, (ss.getD q []).length = z := ⟨_, rfl⟩
          rw [hz] at hcx
          have HZ := hid hz
          have HQ := hid hq
          clear hc hr0 hz hq
          by_cases hz0 : z = 0
          · subst hz0
            have HO := hid (usedP_no (okP_e (L := L) (ss := ss) (by omega) (by rw [hl, HQ.out]; exact HZ.out)))
            go_wp2
            go_ret
            exact ⟨by rw [HO.out]; rfl, HB.out⟩
          · have hzq : ((z : Int) == 0) = false := by simpa using hz0
            by_cases ht2 : 1 + k + t ≤ 240
            · have q4 : ¬ (240 : Int) < 1 + (k : Int) + (t : Int) := by omega
              have HO := hid (show usedP L ss = 1 + (k : Int) + (t : Int) by
                rw [usedP_yes (okP_mk ⟨h1.1, h1.2, by omega, fun _ => by rw [hl, HQ.out, HZ.out]; omega, fun i => by
                  by_cases hi : i < k
                  · exact HT.out.2.2 i hi
                  · rw [List.getD_eq_getElem?_getD, List.getElem?_eq_none (by omega)]; simp, by rw [hl, ← HT1.out]; exact ht2⟩), hl, HT1.out])
              go_wp2
              go_ret
              exact ⟨by rw [HO.out]; rfl, HB.out⟩
            · have q4 : (240 : Int) < 1 + (k : Int) + (t : Int) := by omega
              have HO := hid (usedP_no (okP_t (L := L) (ss := ss) (by rw [hl, ← HT1.out]; exact ht2)))
              go_wp2
              go_ret
              exact ⟨by rw [HO.out]; rfl, HB.out⟩
    · have q2 : (16 : Int) < (n : Int) := by omega
      have HO := hid (usedP_no (okP_n (L := L) (ss := ss) (by omega)))
      go_enter Try.func21, Try.ntmps21
      go_wp2_with fail
      refine (i1 _).mono ?_
      rintro e w1 ⟨rfl, e1⟩
      subst w1
      go_wp2
      go_ret
      exact ⟨by rw [HO.out]; rfl, hA⟩
  · rw [decide_eq_false h1] at i1
    have HO := hid (usedP_no (okP_L (L := L) (ss := ss) h1))
    go_enter Try.func21, Try.ntmps21
    go_wp2_with fail
    refine (i1 _).mono ?_
    rintro e w1 ⟨rfl, e1⟩
    subst w1
    go_wp2
    go_ret
    exact ⟨by rw [HO.out]; rfl, hA⟩

end Go.Proofs.Ytioefplkadpfnaa
/- The contracts of the library's IndexFunc and ContainsFunc over slots, of endsFree, of the program's PageUsed and isPage. Conditions: lists of at most 2^47. -/

namespace Go.Proofs.Ytioefplkadpfnaa
open Go.RowKit
set_option maxRecDepth 100000

/-- Where the first slot is that is so. -/
def ixOf (p : Nat → Bool) (ss : List (List Int)) (r : Int) : Prop := (r = -1 ∧ ∀ j, j < ss.length → p (ss.getD j []).length = false) ∨ ∃ k : Nat, r = k ∧ k < ss.length ∧ p (ss.getD k []).length = true ∧ ∀ j, j < k → p (ss.getD j []).length = false

set_option maxHeartbeats 3200000 in
theorem index_free {a : Option Addr} {n : Nat} (c : Nat) {ss : List (List Int)} {w : World} (h : ReadsS w a ss) (hl : ss.length = n) (hn : n ≤ 140737488355328) :
    Calls Try.prog 83 #[.slice a n c, .func (.func 53) #[] #[]] w fun e w' => ∃ r, e = .returned (.int .i64 r) ∧ ixOf (fun m => decide (m = 0)) ss r ∧ Below w.heap.size w w' := by
  go_enter Try.func83, Try.ntmps83
  go_wp2_with fail
  go_loopw [8] (fun i wr => ∃ k m : Nat, k ≤ n ∧ i = .int .i64 k ∧ Hid (∀ j, j < k → (fun m => decide (m = 0)) (ss.getD j []).length = false) ∧ wr = w.drewN m) (fun i _ => n - (intOf i).toNat)
  case atStart => exact ⟨0, 0, Nat.zero_le _, rfl, hid (fun j hj => by omega), rfl⟩
  case round =>
    obtain ⟨k, m, hk, rfl, HJ, rfl⟩ := hrel
    by_cases hlt : k < n
    · have hlt' : (k : Int) < (n : Int) := by omega
      have hk0 : (0 : Int) ≤ (k : Int) := by omega
      rcases h.cells with h0 | ⟨b, off, rfl, hc⟩
      · omega
      obtain ⟨v, hcx, a, c', rfl, hr0, _, _⟩ := hc k (by omega)
      obtain ⟨z, hz⟩ : ∃ z, (ss.getD k []).length = z := ⟨_, rfl⟩
      rw [hz] at hcx
      have HZ := hid hz
      clear hc hr0 hz
      go_wp2_with fail
      refine (impl_isFree a z c' _).mono ?_
      rintro e w1 ⟨rfl, e1⟩
      subst w1
      by_cases hp : decide (z = 0) = true
      · rw [hp]
        have HP := hid hp
        clear hp
        go_wp2_with fail
        go_ret
        exact ⟨_, rfl, .inr ⟨k, rfl, by omega, by rw [HZ.out]; exact HP.out, HJ.out⟩, (Still.drewN _ _).below _⟩
      · rw [Bool.not_eq_true] at hp
        rw [hp]
        have HP := hid hp
        clear hp
        go_wp2_with fail
        go_roundw
        case rel => exact ⟨k + 1, _, by omega, by go_num, hid (fun j hj => by by_cases e : j = k; (subst e; rw [HZ.out]; exact HP.out); exact HJ.out j (by omega)), rfl⟩
        case measure => simp [intOf]; omega
    · obtain rfl : k = n := by omega
      have hlt' : ¬ (k : Int) < (k : Int) := by omega
      go_wp2_with fail
      go_ret
      exact ⟨_, rfl, .inl ⟨rfl, fun j hj => HJ.out j (by omega)⟩, (Still.drewN _ _).below _⟩

set_option maxHeartbeats 3200000 in
theorem index_long {a : Option Addr} {n : Nat} (c : Nat) {ss : List (List Int)} {w : World} (h : ReadsS w a ss) (hl : ss.length = n) (hn : n ≤ 140737488355328) :
    Calls Try.prog 83 #[.slice a n c, .func (.func 54) #[] #[]] w fun e w' => ∃ r, e = .returned (.int .i64 r) ∧ ixOf (fun m => decide (92 < m)) ss r ∧ Below w.heap.size w w' := by
  go_enter Try.func83, Try.ntmps83
  go_wp2_with fail
  go_loopw [8] (fun i wr => ∃ k m : Nat, k ≤ n ∧ i = .int .i64 k ∧ Hid (∀ j, j < k → (fun m => decide (92 < m)) (ss.getD j []).length = false) ∧ wr = w.drewN m) (fun i _ => n - (intOf i).toNat)
  case atStart => exact ⟨0, 0, Nat.zero_le _, rfl, hid (fun j hj => by omega), rfl⟩
  case round =>
    obtain ⟨k, m, hk, rfl, HJ, rfl⟩ := hrel
    by_cases hlt : k < n
    · have hlt' : (k : Int) < (n : Int) := by omega
      have hk0 : (0 : Int) ≤ (k : Int) := by omega
      rcases h.cells with h0 | ⟨b, off, rfl, hc⟩
      · omega
      obtain ⟨v, hcx, a, c', rfl, hr0, _, _⟩ := hc k (by omega)
      obtain ⟨z, hz⟩ : ∃ z, (ss.getD k []).length = z := ⟨_, rfl⟩
      rw [hz] at hcx
      have HZ := hid hz
      clear hc hr0 hz
      go_wp2_with fail
      refine (impl_isTooLong a z c' _).mono ?_
      rintro e w1 ⟨rfl, e1⟩
      subst w1
      by_cases hp : decide (92 < z) = true
      · rw [hp]
        have HP := hid hp
        clear hp
        go_wp2_with fail
        go_ret
        exact ⟨_, rfl, .inr ⟨k, rfl, by omega, by rw [HZ.out]; exact HP.out, HJ.out⟩, (Still.drewN _ _).below _⟩
      · rw [Bool.not_eq_true] at hp
        rw [hp]
        have HP := hid hp
        clear hp
        go_wp2_with fail
        go_roundw
        case rel => exact ⟨k + 1, _, by omega, by go_num, hid (fun j hj => by by_cases e : j = k; (subst e; rw [HZ.out]; exact HP.out); exact HJ.out j (by omega)), rfl⟩
        case measure => simp [intOf]; omega
    · obtain rfl : k = n := by omega
      have hlt' : ¬ (k : Int) < (k : Int) := by omega
      go_wp2_with fail
      go_ret
      exact ⟨_, rfl, .inl ⟨rfl, fun j hj => HJ.out j (by omega)⟩, (Still.drewN _ _).below _⟩

set_option maxHeartbeats 1600000 in
theorem contains_long {a : Option Addr} {n : Nat} (c : Nat) {ss : List (List Int)} {w : World} (h : ReadsS w a ss) (hl : ss.length = n) (hn : n ≤ 140737488355328) :
    Calls Try.prog 59 #[.slice a n c, .func (.func 54) #[] #[]] w fun e w' => e = .returned (.bool (anyL ss)) ∧ Below w.heap.size w w' := by
  go_enter Try.func59, Try.ntmps59
  go_wp2_with fail
  refine (index_long c h hl hn).mono ?_
  rintro e w1 ⟨r, rfl, hr, b⟩
  have HB := hid b
  clear b
  rcases hr with ⟨rfl, hr⟩ | ⟨k, rfl, hk, h1, _⟩
  · have HO := hid (anyL_no (ss := ss) fun i hi => by have := of_decide_eq_false (hr i hi); omega)
    clear hr
    go_wp2_with fail
    go_ret
    exact ⟨by rw [HO.out]; rfl, HB.out⟩
  · have HO := hid (anyL_yes (ss := ss) (i := k) (of_decide_eq_true h1))
    have hk0 : (0 : Int) ≤ (k : Int) := by omega
    clear h1
    go_wp2_with fail
    go_ret
    exact ⟨by rw [HO.out]; rfl, HB.out⟩

set_option maxHeartbeats 1600000 in
theorem impl_endsFree (L : Int) {a : Option Addr} {n : Nat} (c : Nat) {ss : List (List Int)} {w : World} (h : ReadsS w a ss) (hl : ss.length = n) (hn : n ≤ 140737488355328) :
    Calls Try.prog 58 #[.agg #[.int .i64 L, .slice a n c]] w fun e w' => e = .returned (.bool (endF ss)) ∧ Below w.heap.size w w' := by
  have HA := hid (Below.alloc1 w (.cells #[.int .i64 L, .slice a n c] 26))
  have h3 := hid (h.below HA.out (Nat.le_refl _))
  by_cases h0 : n = 0
  · subst h0
    obtain rfl := List.eq_nil_of_length_eq_zero hl
    go_enter Try.func58, Try.ntmps58
    go_wp2_with fail
    go_ret
    exact ⟨rfl, HA.out⟩
  · have hk1 : (0 : Int) < (n : Int) := by omega
    obtain ⟨q, hq⟩ : ∃ q, n - 1 = q := ⟨_, rfl⟩
    have hq1 : (n : Int) - 1 = (q : Int) := by omega
    have hq2 : (0 : Int) ≤ (q : Int) := by omega
    have hq3 : (q : Int) < (n : Int) := by omega
    rcases h3.out.cells with h00 | ⟨b, off, rfl, hc⟩
    · omega
    obtain ⟨v, hcx, a, c', rfl, hr0, _, _⟩ := hc q (by omega)
    have HE := hid (show endF ss = decide ((ss.getD q []).length = 0) by
      unfold endF; rw [hl, hq]
      by_cases e : (ss.getD q []).length = 0
      · rw [decide_eq_true ⟨by omega, e⟩, decide_eq_true e]
      · rw [decide_eq_false (fun x => e x.2), decide_eq_false e])
    obtain ⟨z, hz⟩ : ∃ z, (ss.getD q []).length = z := ⟨_, rfl⟩
    rw [hz] at hcx HE
    have HQ := hid hq
    have HQ1 := hid hq1
    clear hc hr0 hz hq h
    go_enter Try.func58, Try.ntmps58
    go_wp2_with fail
    refine (impl_isFree a z c' _).mono ?_
    rintro e w1 ⟨rfl, e1⟩
    subst w1
    go_wp2_with fail
    go_ret
    exact ⟨by rw [HE.out]; rfl, HA.out⟩

theorem okP_eq (L : Int) (ss : List (List Int)) (h1 : decide (0 ≤ L ∧ L ≤ 1000000) = true) (h2 : ss.length ≤ 16) (h3 : endF ss = false) (h4 : anyL ss = false) : okP L ss = decide (1 + ss.length + tot ss ≤ 240) := by
  unfold okP; rw [h1, decide_eq_true h2, h3, h4]; rfl

set_option maxHeartbeats 3200000 in
theorem impl_PageUsed (L : Int) {a : Option Addr} {n : Nat} (c : Nat) {ss : List (List Int)} {w : World} (h : ReadsS w a ss) (hl : ss.length = n) (hn : n ≤ 140737488355328) :
    Calls Try.prog 15 #[.agg #[.int .i64 L, .slice a n c]] w fun e w' => e = .returned (.int .i64 (usedP L ss)) ∧ Below w.heap.size w w' := by
  have HX := hid (ArgP.new L n c h 26 w.heap.size rfl)
  have HB := hid (Below.alloc1 w (.cells #[.int .i64 L, .slice a n c] 26))
  have i1 := impl_inP L 0 1000000
  clear h
  go_enter Try.func15, Try.ntmps15
  go_wp2_with fail
  generalize w.alloc (.cells #[.int .i64 L, .slice a n c] 26) = W at *
  refine (i1 _).mono ?_
  rintro e w1 ⟨rfl, e1⟩
  subst w1
  clear i1
  by_cases h1 : decide (0 ≤ L ∧ L ≤ 1000000) = true
  · rw [h1]
    have H1 := hid h1
    clear h1
    obtain ⟨c0, c1⟩ := HX.out.box
    by_cases h2 : n ≤ 16
    · have q2 : ¬ (16 : Int) < (n : Int) := by omega
      go_wp2_with fail
      refine (impl_endsFree L c HX.out.reads hl hn).mono ?_
      rintro e w1 ⟨rfl, b⟩
      replace HX := hid (HX.out.below b (Nat.le_refl _))
      replace HB := hid (HB.out.trans (b.mono HB.out.size))
      clear b c0 c1
      by_cases h3 : endF ss = true
      · rw [h3]
        have HO := hid (usedP_no (okP_e (L := L) (ss := ss) (of_decide_eq_true h3).1 (of_decide_eq_true h3).2))
        clear h3
        go_wp2_with fail
        go_ret
        exact ⟨by rw [HO.out]; rfl, HB.out⟩
      rw [Bool.not_eq_true] at h3
      rw [h3]
      have H3 := hid h3
      clear h3
      obtain ⟨c0, c1⟩ := HX.out.box
      go_wp2_with fail
      refine (contains_long c HX.out.reads hl hn).mono ?_
      rintro e w2 ⟨rfl, b⟩
      replace HX := hid (HX.out.below b (Nat.le_refl _))
      replace HB := hid (HB.out.trans (b.mono HB.out.size))
      clear b c0 c1
      by_cases h4 : anyL ss = true
      · rw [h4]
        have HO := hid (usedP_no (L := L) (ss := ss) (by unfold okP; rw [h4]; simp))
        clear h4
        go_wp2_with fail
        go_ret
        exact ⟨by rw [HO.out]; rfl, HB.out⟩
      rw [Bool.not_eq_true] at h4
      rw [h4]
      have H4 := hid h4
      have H5 := hid (anyL_at h4)
      have HK := hid (okP_eq L ss H1.out (by omega) H3.out h4)
      clear h4
      obtain ⟨c0, c1⟩ := HX.out.box
      go_wp2_with fail
      go_loopw [3, 28] (fun s i wr => ∃ k t m : Nat, k ≤ n ∧ i = .int .i64 k ∧ s = .int .i64 (1 + (k : Int) + (t : Int)) ∧ t ≤ 1500 ∧ Hid (t = tot (ss.take k) ∧ t ≤ 92 * k) ∧ wr = w2.drewN m) (fun _ i _ => n - (intOf i).toNat)
      case atStart => exact ⟨0, 0, 0, Nat.zero_le _, rfl, by simp, by omega, hid ⟨by simp [tot], by omega⟩, rfl⟩
      case round =>
        obtain ⟨k, t, m, hk, rfl, rfl, ht, HT, rfl⟩ := hrel
        by_cases hlt : k < n
        · have hlt' : (k : Int) < (n : Int) := by omega
          have hk0 : (0 : Int) ≤ (k : Int) := by omega
          rcases HX.out.reads.cells with h0 | ⟨b, off, rfl, hc⟩
          · omega
          obtain ⟨v, hcx, a, c', rfl, hr0, _, _⟩ := hc k (by omega)
          have HS := hid (tot_step ss k (by omega))
          have hz92 := H5.out k
          obtain ⟨z, hz⟩ : ∃ z, (ss.getD k []).length = z := ⟨_, rfl⟩
          rw [hz] at hcx HS hz92
          clear hc hr0 hz
          go_wp2_with fail
          try go_quiet (fail)
          try go_wp2_with fail
          go_roundw
          case rel => exact ⟨k + 1, t + z, _, by omega, by go_num, by go_num, by have := HT.out.2; omega, hid ⟨by rw [HS.out, ← HT.out.1], by have := HT.out.2; omega⟩, rfl⟩
          case measure => simp [intOf]; omega
        · obtain rfl : k = n := by omega
          have hlt' : ¬ (k : Int) < (k : Int) := by omega
          have HT1 := hid (show t = tot ss by rw [HT.out.1, List.take_of_length_le (by omega)])
          replace HB := hid (HB.out.trans ((Still.drewN w2 m).below _))
          by_cases ht2 : 1 + k + t ≤ 240
          · have q4 : ¬ (240 : Int) < 1 + (k : Int) + (t : Int) := by omega
            have HO := hid (show usedP L ss = 1 + (k : Int) + (t : Int) by rw [usedP_yes (by rw [HK.out, hl, ← HT1.out]; exact decide_eq_true ht2), hl, HT1.out])
            go_wp2_with fail
            go_ret
            exact ⟨by rw [HO.out]; rfl, HB.out⟩
          · have q4 : (240 : Int) < 1 + (k : Int) + (t : Int) := by omega
            have HO := hid (usedP_no (okP_t (L := L) (ss := ss) (by rw [hl, ← HT1.out]; exact ht2)))
            go_wp2_with fail
            go_ret
            exact ⟨by rw [HO.out]; rfl, HB.out⟩
    · have q2 : (16 : Int) < (n : Int) := by omega
      have HO := hid (usedP_no (okP_n (L := L) (ss := ss) (by omega)))
      go_wp2_with fail
      go_ret
      exact ⟨by rw [HO.out]; rfl, HB.out⟩
  · have HO := hid (usedP_no (okP_L (L := L) (ss := ss) (fun e => h1 (decide_eq_true e))))
    rw [Bool.not_eq_true] at h1
    rw [h1]
    clear h1
    go_wp2_with fail
    go_ret
    exact ⟨by rw [HO.out]; rfl, HB.out⟩

set_option maxHeartbeats 1600000 in
theorem impl_isPage (L : Int) {a : Option Addr} {n : Nat} (c : Nat) {ss : List (List Int)} {w : World} (h : ReadsS w a ss) (hl : ss.length = n) (hn : n ≤ 140737488355328) :
    Calls Try.prog 51 #[.agg #[.int .i64 L, .slice a n c]] w fun e w' => e = .returned (.bool (okP L ss)) ∧ Below w.heap.size w w' := by
  have HA := hid (Below.alloc1 w (.cells #[.int .i64 L, .slice a n c] 26))
  have h3 := hid (h.below HA.out (Nat.le_refl _))
  have HU := hid (usedP_bd (L := L) (ss := ss))
  clear h
  go_enter Try.func51, Try.ntmps51
  go_wp2_with fail
  refine (impl_PageUsed L c h3.out hl hn).mono ?_
  rintro e w1 ⟨rfl, b⟩
  have HB := hid (HA.out.trans (b.mono HA.out.size))
  clear b
  rcases HU.out with ⟨e1, e2⟩ | ⟨e1, e2, e3⟩
  · rw [e2]
    have HE := hid e1
    clear e1 e2
    go_wp2_with fail
    go_ret
    exact ⟨by rw [HE.out]; rfl, HB.out⟩
  · have HE := hid e1
    clear e1
    generalize usedP L ss = u at *
    have q : (u != -1) = true := by simp; omega
    go_wp2_with fail
    go_ret
    exact ⟨by rw [HE.out]; rfl, HB.out⟩
end Go.Proofs.Ytioefplkadpfnaa
/- The contracts of both PagePlace. Conditions: lists of at most 2^47. -/

namespace Go.Proofs.Ytioefplkadpfnaa
open Go.RowKit
set_option maxRecDepth 100000

set_option maxHeartbeats 3200000 in
theorem spec_PagePlace (L : Int) {a : Option Addr} {n : Nat} (c : Nat) {ss : List (List Int)} (m : Int) {w : World} (h : ReadsS w a ss) (hl : ss.length = n) (hn : n ≤ 140737488355328) :
    Calls Try.prog 49 #[.agg #[.int .i64 L, .slice a n c], .int .i64 m] w fun e w' => e = .returned (.int .i64 (placeP L ss m)) ∧ Below w.heap.size w w' := by
  have HX := hid (ArgP.new L n c h 26 w.heap.size rfl)
  have HB := hid (Below.alloc1 w (.cells #[.int .i64 L, .slice a n c] 26))
  have HU := hid (usedP_bd (L := L) (ss := ss))
  have i1 := spec_inP m 1 92
  clear h
  go_enter Try.func49, Try.ntmps49
  go_wp2_with fail
  generalize w.alloc (.cells #[.int .i64 L, .slice a n c] 26) = W at *
  refine (spec_PageUsed L c HX.out.reads hl).mono ?_
  rintro e w1 ⟨rfl, b⟩
  replace HX := hid (HX.out.below b (Nat.le_refl _))
  replace HB := hid (HB.out.trans (b.mono HB.out.size))
  clear b
  rcases HU.out with ⟨e1, e2⟩ | ⟨e1, e2, e3⟩
  · rw [e2]
    have HO := hid (placeP_no (n := m) (.inl e1))
    clear e1 e2
    go_wp2_with fail
    go_ret
    exact ⟨by rw [HO.out]; rfl, HB.out⟩
  obtain ⟨u, hu⟩ : ∃ u, usedP L ss = u := ⟨_, rfl⟩
  rw [hu] at e2 e3 ⊢
  have HE := hid e1
  have HUU := hid hu
  clear e1 hu HU
  have qu : ¬ u < 0 := by omega
  go_wp2_with fail
  refine (i1 _).mono ?_
  rintro e w2 ⟨rfl, e1⟩
  subst w2
  clear i1
  by_cases hm : 1 ≤ m ∧ m ≤ 92
  · rw [decide_eq_true hm]
    obtain ⟨hm1, hm2⟩ := hm
    obtain ⟨c0, c1⟩ := HX.out.box
    have HBK : Hid (backP L ss m = if n < 16 ∧ u + 1 + m ≤ 240 then (n : Int) else -1) := hid (by unfold backP; rw [HUU.out, hl])
    go_wp2_with fail
    go_loopw [6] (fun i wr => ∃ k j : Nat, k ≤ n ∧ i = .int .i64 k ∧ Hid (∀ j, j < k → (ss.getD j []).length = 0 → ¬ u + m ≤ 240) ∧ wr = w1.drewN j) (fun i _ => n - (intOf i).toNat)
    case atStart => exact ⟨0, 0, Nat.zero_le _, rfl, hid (fun j hj => by omega), rfl⟩
    case round =>
      obtain ⟨k, j, hk, rfl, HJ, rfl⟩ := hrel
      have HB2 := hid (HB.out.trans ((Still.drewN w1 j).below _))
      by_cases hlt : k < n
      · have hlt' : (k : Int) < (n : Int) := by omega
        have hk0 : (0 : Int) ≤ (k : Int) := by omega
        rcases HX.out.reads.cells with h0 | ⟨b, off, rfl, hc⟩
        · omega
        obtain ⟨v, hcx, a, c', rfl, hr0, _, _⟩ := hc k (by omega)
        obtain ⟨z, hz⟩ : ∃ z, (ss.getD k []).length = z := ⟨_, rfl⟩
        rw [hz] at hcx
        have HZ := hid hz
        clear hc hr0 hz
        by_cases hz0 : z = 0
        · subst hz0
          by_cases hf : u + m ≤ 240
          · have HO := hid (show placeP L ss m = k from placeP_free HE.out ⟨hm1, hm2⟩ (freeP_some (by omega) HZ.out (fun j hj e => HJ.out j hj e hf)) (by rw [HUU.out]; exact hf))
            go_wp2_with fail
            go_ret
            exact ⟨by rw [HO.out]; rfl, HB2.out⟩
          · have HF := hid hf
            go_wp2_with fail
            go_roundw
            case rel => exact ⟨k + 1, _, by omega, by go_num, hid (fun j hj e => HF.out), rfl⟩
            case measure => simp [intOf]; omega
        · have q : ((z : Int) == 0) = false := by simpa using hz0
          have HZ0 := hid hz0
          go_wp2_with fail
          go_roundw
          case rel => exact ⟨k + 1, _, by omega, by go_num, hid (fun j hj e => by by_cases e' : j = k; (subst e'; exact absurd (HZ.out.symm.trans e) HZ0.out); exact HJ.out j (by omega) e), rfl⟩
          case measure => simp [intOf]; omega
      · obtain rfl : k = n := by omega
        have hlt' : ¬ (k : Int) < (k : Int) := by omega
        have HO := hid (show placeP L ss m = backP L ss m by
          cases hf : freeP ss with
          | none => exact placeP_none HE.out ⟨hm1, hm2⟩ hf
          | some q =>
            obtain ⟨f1, f2, _⟩ := freeP_is hf
            exact placeP_full HE.out ⟨hm1, hm2⟩ hf (by rw [HUU.out]; exact HJ.out q (by omega) f2))
        by_cases g1 : k < 16
        · have g1' : (k : Int) < 16 := by omega
          by_cases g2 : u + 1 + m ≤ 240
          · have HO2 := hid (HBK.out.trans (if_pos ⟨g1, g2⟩))
            go_wp2_with fail
            go_ret
            exact ⟨by rw [HO.out, HO2.out]; rfl, HB2.out⟩
          · have HO2 := hid (HBK.out.trans (if_neg (fun x => g2 x.2)))
            go_wp2_with fail
            go_ret
            exact ⟨by rw [HO.out, HO2.out]; rfl, HB2.out⟩
        · have g1' : ¬ (k : Int) < 16 := by omega
          have HO2 := hid (HBK.out.trans (if_neg (fun x => g1 x.1)))
          go_wp2_with fail
          go_ret
          exact ⟨by rw [HO.out, HO2.out]; rfl, HB2.out⟩
  · rw [decide_eq_false hm]
    have HO := hid (placeP_no (L := L) (ss := ss) (n := m) (.inr hm))
    clear hm
    go_wp2_with fail
    go_ret
    exact ⟨by rw [HO.out]; rfl, HB.out⟩

end Go.Proofs.Ytioefplkadpfnaa
/- Rows told apart by their type. No statement of its own; no conditions. -/

namespace Go.Proofs.Ytioefplkadpfnaa
open Go.RowKit

theorem oty_ne {w : World} {B k : Nat} {e t : TypeId} {s : Nat} {v : Value} {n : Nat} {xs cs : _} {fz : _} (o : w.ownsRow B e s v n xs) (hk : w.heap[k]? = some (.cells cs t fz)) (ht : t ≠ e) : v.ownBlock = none ∨ v.ownBlock ≠ some k := by
  rcases o.2 with ⟨rfl, _⟩ | ⟨g, cap, cur, rfl, _, hg, _⟩
  · exact .inl rfl
  · right
    intro he
    simp only [Value.ownBlock, Option.some.injEq] at he
    subst he
    rw [hg] at hk
    simp only [Option.some.injEq, Obj.cells.injEq] at hk
    exact ht hk.2.1.symm

end Go.Proofs.Ytioefplkadpfnaa
/- A page in a box whose slots are changed in place. No statement of its own; no conditions. -/


namespace Go.Proofs.Ytioefplkadpfnaa
open Go.RowKit

theorem own_nk {w : World} {B k : Nat} {e t : TypeId} {s : Nat} {v : Value} {n : Nat} {xs : List Value} {cs : Array Value} {fz : Nat × Nat} (o : w.ownsRow B e s v n xs) (hk : w.heap[k]? = some (.cells cs t fz)) (ht : t ≠ e) : some k ≠ v.ownBlock := by
  rcases oty_ne o hk ht with h | h
  · rw [h]; exact fun e => by cases e
  · exact fun e => h e.symm
theorem grown_set7 (w : World) (g j : Nat) (v : Value) : w.grownBy (w.setCell ⟨g, j, none⟩ v) (some g) :=
  ⟨rfl, rfl, rfl, by rw [set_size]; exact Nat.le_refl _, fun k _ hk => heap_set_ne w g j k v (fun e => hk (by rw [e]))⟩
theorem grown_row7 (w : World) (g : Nat) (cs : Array Value) : w.grownBy (w.setRow g cs) (some g) :=
  ⟨rfl, rfl, rfl, by simp [World.setRow], fun k _ hk => setRow_other w g k cs (fun e => hk (by rw [e]))⟩

structure Liv (w : World) (lo g : Nat) (L : Int) (a : Option Addr) (k c : Nat) (xs : List Value) (ts : List (List Int)) : Prop where
  row : w.heap[g]? = some (.cells #[.int .i64 L, .slice a k c] 26 (0, 0))
  own : w.ownsRow lo 22 1 (.slice a k c) k xs
  bands : Bands w lo w.heap.size xs ts
  len : ts.length = k
section
variable {w w' : World} {lo g : Nat} {L : Int} {a : Option Addr} {k c : Nat} {xs : List Value} {ts : List (List Int)}
theorem Liv.box (h : Liv w lo g L a k c xs ts) : BoxP w g L a k c := BoxP.row h.row
theorem Liv.fz (h : Liv w lo g L a k c xs ts) (i : Nat) : w.frozen? ⟨g, i, none⟩ = false := frozen_of_row _ _ _ _ _ h.row
theorem Liv.lt (h : Liv w lo g L a k c xs ts) : g < w.heap.size := (Array.getElem?_eq_some_iff.1 h.row).1
theorem Liv.below (h : Liv w lo g L a k c xs ts) {B : Nat} (b : Below B w w') (hB : w.heap.size ≤ B) : Liv w' lo g L a k c xs ts := by
  have hs := b.size
  exact ⟨(b.block g (Nat.lt_of_lt_of_le h.lt hB)).trans h.row, owns_below b hB h.own, (h.bands.agree (Agree.below b hB)).mono (Nat.le_refl _) hs, h.len⟩
theorem Liv.ownP (h : Liv w lo g L a k c xs ts) : OwnP w lo w.heap.size (.slice a k c) ts := ⟨⟨xs, by rw [h.len]; exact h.own, h.bands⟩, fun q hq => (h.own.lt q hq).2⟩
theorem Liv.reads (h : Liv w lo g L a k c xs ts) : ReadsS w a ts := h.ownP.rd
/-- A block of another kind is written. -/
theorem Liv.beside (h : Liv w lo g L a k c xs ts) {r : Nat} {cs : Array Value} {t : TypeId} {fz : Nat × Nat} (hr : w.heap[r]? = some (.cells cs t fz)) (h22 : t ≠ 22) (h5 : t ≠ 5) (hg : w.grownBy w' (some r)) (hne : r ≠ g) : Liv w' lo g L a k c xs ts :=
  ⟨(hg.block g h.lt (fun e => hne (by cases e; rfl))).trans h.row, h.own.kept hg (oty_ne h.own hr h22), (h.bands.beside hg (fun i => oty_ne (h.bands.own i) hr h5)).mono (Nat.le_refl _) hg.size, h.len⟩
/-- The number of the page is laid anew. -/
theorem Liv.lsn (h : Liv w lo g L a k c xs ts) (L' : Int) : Liv (w.setCell ⟨g, 0, none⟩ (.int .i64 L')) lo g L' a k c xs ts := by
  have hg := grown_set7 w g 0 (.int .i64 L')
  exact ⟨heap_setCell_same w g 0 _ 26 (.int .i64 L') h.row, h.own.kept hg (oty_ne h.own h.row (by decide)), (h.bands.beside hg (fun i => oty_ne (h.bands.own i) h.row (by decide))).mono (Nat.le_refl _) hg.size, h.len⟩
/-- A row of the call's own is appended. -/
theorem Liv.grow {X w5 : World} {v : Value} {z : List Int} {a2 : Option Addr} {c2 : Nat} (h : Liv w lo g L a k c xs ts) (bX : Below w.heap.size w X) (hlo : lo ≤ w.heap.size) (oX : X.ownsRow w.heap.size 5 1 v z.length (bys z)) (bd : ∀ j, 0 ≤ z.getD j 0 ∧ z.getD j 0 ≤ 255)
    (o1 : w5.ownsRow lo 22 1 (.slice a2 (k + 1) c2) (k + 1) (xs ++ [v])) (hg : X.grownBy w5 (Value.slice a k c).ownBlock) : Liv (w5.setCell ⟨g, 1, none⟩ (.slice a2 (k + 1) c2)) lo g L a2 (k + 1) c2 (xs ++ [v]) (ts ++ [z]) := by
  have hB1 := h.bands.grow hlo bX oX bd (owns_below bX (Nat.le_refl _) h.own) (by decide) hg
  have V2 : w5.heap[g]? = _ := (hg.block g (Nat.lt_of_lt_of_le h.lt bX.size) (own_nk h.own h.row (by decide))).trans ((bX.block g h.lt).trans h.row)
  have hs := grown_set7 w5 g 1 (.slice a2 (k + 1) c2)
  exact ⟨heap_setCell_same w5 g 1 _ 26 (.slice a2 (k + 1) c2) V2, o1.kept hs (oty_ne o1 V2 (by decide)), (hB1.beside hs (fun i => oty_ne (hB1.own i) V2 (by decide))).mono (Nat.le_refl _) hs.size, by simp [h.len]⟩
/-- Another block than the list's and the box's is as it was behind that. -/
theorem Liv.grow_at {X w5 : World} {a2 : Option Addr} {c2 r : Nat} {o : Obj} (_h : Liv w lo g L a k c xs ts) (bX : Below w.heap.size w X) (hg : X.grownBy w5 (Value.slice a k c).ownBlock) (hr : w.heap[r]? = some o) (hne : some r ≠ (Value.slice a k c).ownBlock) (hrg : r ≠ g) : (w5.setCell ⟨g, 1, none⟩ (.slice a2 (k + 1) c2)).heap[r]? = some o := by
  have hl := (Array.getElem?_eq_some_iff.1 hr).1
  exact (heap_set_ne _ _ _ _ _ hrg).trans ((hg.block r (Nat.lt_of_lt_of_le hl bX.size) hne).trans ((bX.block r hl).trans hr))
/-- A slot is laid anew. -/
theorem Liv.put {gl : Nat} {X : World} {v : Value} {z : List Int} {i : Nat} (h : Liv w lo g L (some ⟨gl, 0, none⟩) k c xs ts) (bX : Below w.heap.size w X) (hlo : lo ≤ w.heap.size) (oX : X.ownsRow w.heap.size 5 1 v z.length (bys z)) (bd : ∀ j, 0 ≤ z.getD j 0 ∧ z.getD j 0 ≤ 255) (hi : i < k) :
    Liv (X.setCell ⟨gl, i, none⟩ v) lo g L (some ⟨gl, 0, none⟩) k c (xs.set i v) (ts.set i z) := by
  have hX := h.below bX (Nat.le_refl _)
  have st := hX.own.stored i v
  have B1 := (h.bands.agree (Agree.below bX (Nat.le_refl _))).swap hlo bX.size (i := i) (by rw [h.len]; exact hi) oX bd (Nat.le_refl _)
  refine ⟨(st.2.block g hX.lt (own_nk hX.own hX.row (by decide))).trans hX.row, st.1, ?_, by rw [List.length_set]; exact h.len⟩
  exact (B1.beside st.2 (fun q => owns_ne (B1.own q) hX.own (by decide))).mono (Nat.le_refl _) st.2.size
theorem Liv.put_at {gl : Nat} {X : World} {v : Value} {i r : Nat} {o : Obj} (bX : Below w.heap.size w X) (hr : w.heap[r]? = some o) (hne : r ≠ gl) : (X.setCell ⟨gl, i, none⟩ v).heap[r]? = some o :=
  (heap_set_ne _ _ _ _ _ hne).trans ((bX.block r (Array.getElem?_eq_some_iff.1 hr).1).trans hr)
/-- The list is cut. -/
theorem Liv.cut {gl j : Nat} (h : Liv w lo g L (some ⟨gl, 0, none⟩) k c xs ts) (hj : j ≤ k) : Liv (w.setCell ⟨g, 1, none⟩ (.slice (some ⟨gl, 0, none⟩) j c)) lo g L (some ⟨gl, 0, none⟩) j c (xs.take j) (ts.take j) := by
  have hs := grown_set7 w g 1 (.slice (some ⟨gl, 0, none⟩) j c)
  have o1 : w.ownsRow lo 22 1 (.slice (some ⟨gl, 0, none⟩) j c) j (xs.take j) := by
    have hxl := h.own.1
    refine ⟨by simp; omega, .inr ?_⟩
    rcases h.own.2 with ⟨e, _⟩ | ⟨g', cap, cur, e, hb, hgg, hnc, hcm, hcs, ht⟩
    · cases e
    · obtain ⟨e1, _, rfl⟩ := Value.slice.inj e
      obtain rfl : gl = g' := by cases e1; rfl
      refine ⟨gl, c, cur, rfl, hb, hgg, by omega, hcm, hcs, ?_⟩
      have : (cur.toList.take (k * 1)).take (j * 1) = xs.take (j * 1) := by rw [ht]
      rw [List.take_take, Nat.min_eq_left (by omega)] at this
      simpa using this
  have b1 : Bands w lo w.heap.size (xs.take j) (ts.take j) := by
    have := h.bands
    rw [← List.take_append_drop j xs, ← List.take_append_drop j ts] at this
    have hl := h.bands.len
    exact this.left (by simp; omega)
  exact ⟨heap_setCell_same w g 1 _ 26 (.slice (some ⟨gl, 0, none⟩) j c) h.row, o1.kept hs (oty_ne o1 h.row (by decide)), (b1.beside hs (fun i => oty_ne (b1.own i) h.row (by decide))).mono (Nat.le_refl _) hs.size, by simp [h.len]; omega⟩
end
end Go.Proofs.Ytioefplkadpfnaa
/- The contract of the specification's PagePut. Conditions: lists of at most 2^47. -/




namespace Go.Proofs.Ytioefplkadpfnaa
open Go.RowKit
set_option maxRecDepth 100000

theorem results_cell_tmp7 {P : Program} {fn : Func} {p q : Tmp} {ty : TypeId} (h : fn.results = #[.cell p ty, .tmp q]) (tmps : Array Value) (w : World) (g : Nat) (t : TypeId) (cs : Array Value) (fr : Nat × Nat) (d : TypeDesc)
    (hp : tmps.getD p undef = .pointer (some ⟨g, 0, none⟩)) (hg : w.heap[g]? = some (.cells cs t fr))
    (hu : P.underlying ty = some d) (hd : (match d with | .struct _ | .array _ _ => true | _ => false) = true) (hi : (P.info? ty).map (·.size) = some cs.size) :
    (results fn tmps).run P w = .ok (.tuple #[.agg cs, tmps.getD q undef]) w := by
  have hp' : tmps[p]?.getD undef = .pointer (some ⟨g, 0, none⟩) := by simpa using hp
  simp [results, h, hp', asAddr, run_loadVar_row w g t ty cs fr d hg hu hd hi]


theorem putP_no {L : Int} {ss : List (List Int)} {slot : Int} {z : List Int} {lsn : Int} (h : putOk L ss slot z lsn = false) : putP L ss slot z lsn = (0, []) := by unfold putP; rw [if_neg (by simp [h])]; rfl
theorem putP_yes {L : Int} {ss : List (List Int)} {slot : Int} {z : List Int} {lsn : Int} (h : putOk L ss slot z lsn = true) : putP L ss slot z lsn = (lsn, layP ss slot.toNat z) := by unfold putP; rw [if_pos h]
theorem putOk_eq {L : Int} {ss : List (List Int)} {slot : Int} {z : List Int} {lsn : Int} (h1 : okP L ss = true) (h2 : 0 ≤ slot ∧ slot ≤ 15) (h3 : 1 ≤ z.length ∧ z.length ≤ 92) (h4 : 1 ≤ lsn ∧ lsn ≤ 1000000) : putOk L ss slot z lsn = okP lsn (layP ss slot.toNat z) := by
  unfold putOk; rw [h1, decide_eq_true h2, decide_eq_true h3, decide_eq_true h4]; rfl
theorem putOk_1 {L : Int} {ss : List (List Int)} {slot : Int} {z : List Int} {lsn : Int} (h1 : okP L ss = false) : putOk L ss slot z lsn = false := by unfold putOk; rw [h1]; rfl
theorem putOk_2 {L : Int} {ss : List (List Int)} {slot : Int} {z : List Int} {lsn : Int} (h : ¬ (0 ≤ slot ∧ slot ≤ 15)) : putOk L ss slot z lsn = false := by unfold putOk; rw [decide_eq_false h]; simp
theorem putOk_3 {L : Int} {ss : List (List Int)} {slot : Int} {z : List Int} {lsn : Int} (h : ¬ (1 ≤ z.length ∧ z.length ≤ 92)) : putOk L ss slot z lsn = false := by unfold putOk; rw [decide_eq_false h]; simp
theorem putOk_4 {L : Int} {ss : List (List Int)} {slot : Int} {z : List Int} {lsn : Int} (h : ¬ (1 ≤ lsn ∧ lsn ≤ 1000000)) : putOk L ss slot z lsn = false := by unfold putOk; rw [decide_eq_false h]; simp
/-- One slot more, a free one. -/
theorem pad_step (ss : List (List Int)) (k : Nat) (h : ss.length ≤ k) : ss ++ List.replicate (k + 1 - ss.length) [] = (ss ++ List.replicate (k - ss.length) []) ++ [[]] := by
  rw [show k + 1 - ss.length = (k - ss.length) + 1 by omega, List.replicate_succ', List.append_assoc]
theorem pad_len (ss : List (List Int)) (k : Nat) (h : ss.length ≤ k) : (ss ++ List.replicate (k - ss.length) []).length = k := by simp; omega

set_option maxHeartbeats 6400000 in
theorem spec_PagePut (L : Int) {a : Option Addr} {n : Nat} (c : Nat) {ss : List (List Int)} (slot : Int) {ad : Option Addr} {nd : Nat} (cd : Nat) {zs : List Int} (lsn : Int) {w : World} (h : ReadsS w a ss) (hl : ss.length = n) (hd : Reads w ad nd zs) (hnil : ad = none → cd = 0)
    {RL : Int} {RS : List (List Int)} {ok : Bool} {m : Nat} (hR : putP L ss slot zs lsn = (RL, RS)) (hk : putOk L ss slot zs lsn = ok) (hm : RS.length = m) :
    Calls Try.prog 14 #[.agg #[.int .i64 L, .slice a n c], .int .i64 slot, .slice ad nd cd, .int .i64 lsn] w fun e w' => ∃ a' c', e = .returned (.tuple #[.agg #[.int .i64 RL, .slice a' m c'], .bool ok]) ∧ OwnP w' w.heap.size w'.heap.size (.slice a' m c') RS ∧ Below w.heap.size w w' := by
  obtain ⟨i0, hi, hz0, hz1, hz2⟩ := info_parts Try.info22
  obtain ⟨k0', ki, kz0, kz1, kz2⟩ := info_parts Try.info5
  have HR := hid hR
  have HK := hid hk
  have HM := hid hm
  have HNI := hid hnil
  have HDL := hid hd.len
  clear hR hk hm hnil
  have HB := hid (two w (.cells #[.int .i64 L, .slice a n c] 26) (.cells #[.int .i64 0, .slice none 0 0] 26))
  have HX := hid (show ArgP _ _ _ _ _ _ _ from (ArgP.new L n c h 26 w.heap.size rfl).alloc (.cells #[.int .i64 0, .slice none 0 0] 26))
  have R1 := hid (heap_new2 w (.cells #[.int .i64 L, .slice a n c] 26) (.cells #[.int .i64 0, .slice none 0 0] 26))
  have HD := hid (hd.below HB.out (Nat.le_refl _))
  have HSZ := hid (show w.heap.size + 2 ≤ ((w.alloc (.cells #[.int .i64 L, .slice a n c] 26)).alloc (.cells #[.int .i64 0, .slice none 0 0] 26)).heap.size by simp)
  have HU := hid (usedP_bd (L := L) (ss := ss))
  have HD0 := hid hd
  clear h hd
  go_enter Try.func14, Try.ntmps14
  go_wp2_with fail
  generalize (w.alloc (.cells #[.int .i64 L, .slice a n c] 26)).alloc (.cells #[.int .i64 0, .slice none 0 0] 26) = W at *
  refine (spec_PageUsed L c HX.out.reads hl).mono ?_
  rintro e w1 ⟨rfl, b⟩
  replace HX := hid (HX.out.below b (Nat.le_refl _))
  replace HD := hid (HD.out.below b (Nat.le_refl _))
  replace R1 := hid ((b.block _ (by have := HSZ.out; omega)).trans R1.out)
  replace HB := hid (HB.out.trans (b.mono HB.out.size))
  replace HSZ := hid (Nat.le_trans HSZ.out b.size)
  clear b
  rcases HU.out with ⟨e1, e2⟩ | ⟨e1, e2, e3⟩
  · rw [e2]
    have HE := hid e1
    clear e1 e2
    have HO := hid (show putOk L ss slot zs lsn = false from putOk_1 HE.out)
    go_wp2_with (refine wpList_store_row rfl 26 (.tmp 8) (.tmp 34) rfl (w.heap.size + 1) #[.int .i64 0, .slice none 0 0] rfl rfl 26 _ R1.out ?s1 ?s2 ?s3 ?_)
    case s1 => exact size_pg
    case s2 => rfl
    case s3 => simp [Value.oneCell']
    obtain ⟨rfl, rfl⟩ : 0 = RL ∧ [] = RS := Prod.mk.inj ((putP_no HO.out).symm.trans HR.out)
    obtain rfl : false = ok := HO.out.symm.trans HK.out
    obtain rfl : 0 = m := HM.out
    exact bodyPost_ret (results_cell_tmp7 Try.results14 _ _ (w.heap.size + 1) 26 _ (0, 0) _ rfl (setRow_heap _ _ _ _ _ _ R1.out) Try.underlying26 rfl size_pg) rfl ⟨none, 0, rfl, OwnP.nil _ _ _, below_setRow HB.out (by omega) _⟩

  have HE := hid e1
  obtain ⟨u, hu⟩ : ∃ u, usedP L ss = u := ⟨_, rfl⟩
  rw [hu] at e2 e3 ⊢
  have HUU := hid hu
  have qu : ¬ u < 0 := by omega
  clear e1 hu HU
  go_wp2_with fail
  refine (spec_inP slot 0 15 _).mono ?_
  rintro e w2 ⟨rfl, e1⟩
  subst w2
  by_cases hs : ¬ (0 ≤ slot ∧ slot ≤ 15)
  · rw [decide_eq_false hs]
    have HO := hid (show putOk L ss slot zs lsn = false from putOk_2 hs)
    go_wp2_with (refine wpList_store_row rfl 26 (.tmp 8) (.tmp 34) rfl (w.heap.size + 1) #[.int .i64 0, .slice none 0 0] rfl rfl 26 _ R1.out ?s1 ?s2 ?s3 ?_)
    case s1 => exact size_pg
    case s2 => rfl
    case s3 => simp [Value.oneCell']
    obtain ⟨rfl, rfl⟩ : 0 = RL ∧ [] = RS := Prod.mk.inj ((putP_no HO.out).symm.trans HR.out)
    obtain rfl : false = ok := HO.out.symm.trans HK.out
    obtain rfl : 0 = m := HM.out
    exact bodyPost_ret (results_cell_tmp7 Try.results14 _ _ (w.heap.size + 1) 26 _ (0, 0) _ rfl (setRow_heap _ _ _ _ _ _ R1.out) Try.underlying26 rfl size_pg) rfl ⟨none, 0, rfl, OwnP.nil _ _ _, below_setRow HB.out (by omega) _⟩

  replace hs := Decidable.not_not.1 hs
  rw [decide_eq_true hs]
  obtain ⟨hs0, hs1⟩ := hs
  by_cases hd0 : nd = 0
  · subst hd0
    have HO := hid (show putOk L ss slot zs lsn = false from putOk_3 (by rw [HDL.out]; omega))
    go_wp2_with (refine wpList_store_row rfl 26 (.tmp 8) (.tmp 34) rfl (w.heap.size + 1) #[.int .i64 0, .slice none 0 0] rfl rfl 26 _ R1.out ?s1 ?s2 ?s3 ?_)
    case s1 => exact size_pg
    case s2 => rfl
    case s3 => simp [Value.oneCell']
    obtain ⟨rfl, rfl⟩ : 0 = RL ∧ [] = RS := Prod.mk.inj ((putP_no HO.out).symm.trans HR.out)
    obtain rfl : false = ok := HO.out.symm.trans HK.out
    obtain rfl : 0 = m := HM.out
    exact bodyPost_ret (results_cell_tmp7 Try.results14 _ _ (w.heap.size + 1) 26 _ (0, 0) _ rfl (setRow_heap _ _ _ _ _ _ R1.out) Try.underlying26 rfl size_pg) rfl ⟨none, 0, rfl, OwnP.nil _ _ _, below_setRow HB.out (by omega) _⟩

  have qd0 : ((nd : Int) == 0) = false := by simpa using hd0
  by_cases hd1 : 92 < nd
  · have qd1 : (92 : Int) < (nd : Int) := by omega
    have HO := hid (show putOk L ss slot zs lsn = false from putOk_3 (by rw [HDL.out]; omega))
    go_wp2_with (refine wpList_store_row rfl 26 (.tmp 8) (.tmp 34) rfl (w.heap.size + 1) #[.int .i64 0, .slice none 0 0] rfl rfl 26 _ R1.out ?s1 ?s2 ?s3 ?_)
    case s1 => exact size_pg
    case s2 => rfl
    case s3 => simp [Value.oneCell']
    obtain ⟨rfl, rfl⟩ : 0 = RL ∧ [] = RS := Prod.mk.inj ((putP_no HO.out).symm.trans HR.out)
    obtain rfl : false = ok := HO.out.symm.trans HK.out
    obtain rfl : 0 = m := HM.out
    exact bodyPost_ret (results_cell_tmp7 Try.results14 _ _ (w.heap.size + 1) 26 _ (0, 0) _ rfl (setRow_heap _ _ _ _ _ _ R1.out) Try.underlying26 rfl size_pg) rfl ⟨none, 0, rfl, OwnP.nil _ _ _, below_setRow HB.out (by omega) _⟩

  have qd1 : ¬ (92 : Int) < (nd : Int) := by omega
  go_wp2_with fail
  refine (spec_inP lsn 1 1000000 _).mono ?_
  rintro e w2 ⟨rfl, e1⟩
  subst w2
  by_cases hs : ¬ (1 ≤ lsn ∧ lsn ≤ 1000000)
  · rw [decide_eq_false hs]
    have HO := hid (show putOk L ss slot zs lsn = false from putOk_4 hs)
    go_wp2_with (refine wpList_store_row rfl 26 (.tmp 8) (.tmp 34) rfl (w.heap.size + 1) #[.int .i64 0, .slice none 0 0] rfl rfl 26 _ R1.out ?s1 ?s2 ?s3 ?_)
    case s1 => exact size_pg
    case s2 => rfl
    case s3 => simp [Value.oneCell']
    obtain ⟨rfl, rfl⟩ : 0 = RL ∧ [] = RS := Prod.mk.inj ((putP_no HO.out).symm.trans HR.out)
    obtain rfl : false = ok := HO.out.symm.trans HK.out
    obtain rfl : 0 = m := HM.out
    exact bodyPost_ret (results_cell_tmp7 Try.results14 _ _ (w.heap.size + 1) 26 _ (0, 0) _ rfl (setRow_heap _ _ _ _ _ _ R1.out) Try.underlying26 rfl size_pg) rfl ⟨none, 0, rfl, OwnP.nil _ _ _, below_setRow HB.out (by omega) _⟩

  replace hs := Decidable.not_not.1 hs
  rw [decide_eq_true hs]
  obtain ⟨hs2, hs3⟩ := hs
  obtain ⟨q, rfl⟩ := Int.eq_ofNat_of_zero_le hs0
  have HPK := hid (show putOk L ss (q : Int) zs lsn = okP lsn (layP ss q zs) from putOk_eq HE.out ⟨hs0, hs1⟩ (by rw [HDL.out]; omega) ⟨hs2, hs3⟩)
  have hn16 : n ≤ 16 := by have := (okP_of HE.out).n; omega
  have HZ92 := hid (fun i => Nat.le_trans ((okP_of HE.out).z i) (show 92 ≤ 2097152 by omega))
  obtain ⟨c0, c1⟩ := HX.out.box
  go_wp2_with fail
  refine (spec_l7copy L c HX.out.reads hl (by omega) HZ92.out).mono ?_
  rintro e w2 ⟨a1, c1', rfl, o, b⟩
  replace HD := hid (HD.out.below b (Nat.le_refl _))
  replace R1 := hid ((b.block _ (by have := HSZ.out; omega)).trans R1.out)
  replace HB := hid (HB.out.trans (b.mono HB.out.size))
  have LO := hid (show w.heap.size + 2 ≤ w1.heap.size from HSZ.out)
  have LB := hid (show w1.heap.size ≤ w2.heap.size from b.size)
  replace HSZ := hid (Nat.le_trans HSZ.out b.size)
  have HO := hid o
  clear b o c0 c1 HX
  go_wp2_with fail
  have RG := hid (heap_alloc_new w2 (.cells #[.int .i64 L, .slice a1 n c1'] 26))
  have bA := Below.alloc1 w2 (.cells #[.int .i64 L, .slice a1 n c1'] 26)
  have zA := hid (alloc_size w2 (.cells #[.int .i64 L, .slice a1 n c1'] 26))
  replace HO := hid (HO.out.below bA (Nat.le_refl _))
  replace HD := hid (HD.out.below bA (Nat.le_refl _))
  replace R1 := hid ((bA.block _ (by have := HSZ.out; omega)).trans R1.out)
  replace HB := hid (HB.out.trans (bA.mono HB.out.size))
  clear bA
  generalize w2.alloc (.cells #[.int .i64 L, .slice a1 n c1'] 26) = V0 at *
  obtain ⟨xs0, ho0, hb0⟩ := HO.out.own
  rw [hl] at ho0
  have HL := hid (show Liv V0 w1.heap.size w2.heap.size L a1 n c1' xs0 ss from ⟨RG.out, ho0, hb0.mono (Nat.le_refl _) (by have := zA.out; omega), hl⟩)
  clear ho0 hb0 HO RG zA
  go_loopg [] (q + 1 - n) (fun r wr => ∃ (k : Nat) (a' : Option Addr) (c' : Nat) (xs : List Value), n ≤ k ∧ k ≤ 16 ∧ r = q + 1 - k ∧ Hid (k = n ∨ k ≤ q + 1) ∧ Hid (Liv wr w1.heap.size w2.heap.size L a' k c' xs (ss ++ List.replicate (k - ss.length) [])) ∧ Hid (wr.heap[w.heap.size + 1]? = some (.cells #[.int .i64 0, .slice none 0 0] 26)) ∧ Hid (Below w.heap.size w wr) ∧ Hid (Reads wr ad nd zs))
  case atStart => exact ⟨n, a1, c1', xs0, Nat.le_refl _, hn16, rfl, hid (.inl rfl), hid (by rw [hl, Nat.sub_self]; simpa using HL.out), R1, HB, HD⟩
  case round =>
    clear R1 HL HB HD
    obtain ⟨k, a', c', xs, hnk, hk16, hrk, HKQ, HL, R1, HB, HD⟩ := hrel
    obtain ⟨d0, d1⟩ := HL.out.box
    have f1 := HL.out.fz 1
    have HLT := hid HL.out.lt
    by_cases hlt : k ≤ q
    · have hlt' : (k : Int) ≤ (q : Int) := by omega
      go_wp2_with (at_builtin; refine wpList_append_row rfl _ _ 24 rfl w1.heap.size 22 i0 (.slice none 0 0) 1 24 Try.underlying24 hi hz0 hz1 hz2 rfl (by decide) _ k xs rfl (owns_below (Below.alloc1 wr _) (Nat.le_refl _) HL.out.own) (some ⟨wr.heap.size, 0, none⟩) 1 1 [.slice none 0 0] rfl rfl (.inr ⟨_, rfl, World.news_of_block (heap_alloc_new wr _)⟩) (fun e => by cases e) (by simp [Value.oneCell']) ?k4 ?k5 ?k6 ?_)
      case k4 => unfold maxLen; omega
      case k5 => omega
      case k6 => have := HLT.out; have := LB.out; simp; omega
      intro a2 c2 w5 hown1 hgrow
      have bX := Below.alloc1 wr (.cells #[.slice none 0 0] 22)
      have hlo : w1.heap.size ≤ wr.heap.size := by have := HLT.out; have := LB.out; omega
      have HN1 := own_nk HL.out.own R1.out (by decide)
      have L2 := HL.out.grow (v := .slice none 0 0) (z := []) bX hlo (World.ownsRow_nil _ _ 5 1) (by simp) hown1 hgrow
      rw [← pad_step ss k (by omega)] at L2
      have HL2 := hid L2
      have R2 := hid (HL.out.grow_at (a2 := a2) (c2 := c2) bX hgrow R1.out HN1 (by have := LO.out; have := LB.out; omega))
      have B2 := hid (((HB.out.trans (bX.mono HB.out.size)).grown hgrow (Nat.le_trans HB.out.size bX.size) (fun q hq => by have := (HL.out.own.lt q hq).1; have := LO.out; omega)).setCell (p := ⟨w2.heap.size, 1, none⟩) (by have := LO.out; have := LB.out; show w.heap.size ≤ w2.heap.size; omega) (.slice a2 (k + 1) c2))
      have D2 := hid (HD0.out.below B2.out (Nat.le_refl _))
      have e1 := hgrow.cell (bX.cell (p := ⟨w2.heap.size, 1, none⟩) HLT.out |>.trans d1) (own_nk HL.out.own HL.out.row (by decide))
      have e2 := (hgrow.frozen_far ⟨w2.heap.size, 1, none⟩ (Nat.lt_of_lt_of_le HLT.out bX.size) (own_nk HL.out.own HL.out.row (by decide))).trans ((bX.frozen (p := ⟨w2.heap.size, 1, none⟩) HLT.out).trans f1)
      clear bX hlo HN1 L2 hown1 hgrow d0 d1 f1
      go_wp2_with fail
      clear e1 e2
      go_roundg (q + 1 - (k + 1))
      case measure => omega
      case rel => exact ⟨k + 1, a2, c2, xs ++ [.slice none 0 0], by omega, by omega, rfl, hid (.inr (by omega)), HL2, R2, B2, D2⟩
    · have hlt' : ¬ (k : Int) ≤ (q : Int) := by omega
      have hqk : (q : Int) < (k : Int) := by omega
      have hq0' : (0 : Int) ≤ (q : Int) := by omega
      have HLAY := hid (show (ss ++ List.replicate (k - ss.length) []).set q zs = layP ss q zs by
        unfold layP
        rcases HKQ.out with e | e
        · rw [e, hl, Nat.sub_self, show q + 1 - n = 0 by omega]
        · rw [show k = q + 1 by omega])
      have HLK := hid (show (layP ss q zs).length = k by rw [← HLAY.out, List.length_set, pad_len ss k (by omega)])
      obtain ⟨gl, cl, e0, hgl, hgl2⟩ := HL.out.own.form (by omega)
      obtain ⟨rfl, _, rfl⟩ := Value.slice.inj e0
      have H0 := hid (World.ownsRow_lit (base := wr.heap.size) (e := 5) (size := 1) wr #[] 0 (Nat.le_refl _) (Nat.zero_le _) rfl)
      have HK' := hid (show ∀ X, Below wr.heap.size wr X → X.cell? ⟨w2.heap.size, 1, none⟩ = some (.slice (some ⟨gl, 0, none⟩) k c') from fun X bb => (bb.cell (p := ⟨w2.heap.size, 1, none⟩) HLT.out).trans d1)
      have HN2 := hid (show gl ≠ w2.heap.size from fun e => own_nk HL.out.own HL.out.row (by decide) (by rw [e]; rfl))
      have HN1 := hid (show w.heap.size + 1 ≠ gl from fun e => own_nk HL.out.own R1.out (by decide) (by rw [e]; rfl))
      have HGL := hid hgl2
      clear e0 hgl hgl2
      have hvq : ∃ vq, wr.cell? ⟨gl, q, none⟩ = some vq := ⟨_, (HL.out.own.cellAt q (by omega)).trans (List.getElem?_eq_getElem (by have := HL.out.own.1; omega))⟩
      obtain ⟨vq, hvq⟩ := hvq
      have hfq := HL.out.own.frozenAt q
      replace HK' := hid (show ∀ X, Below wr.heap.size wr X → X.cell? ⟨w2.heap.size, 1, none⟩ = some (.slice (some ⟨gl, 0, none⟩) k c') ∧ X.cell? ⟨gl, q, none⟩ = some vq ∧ X.frozen? ⟨gl, q, none⟩ = false from fun X bb => ⟨HK'.out X bb, (bb.cell (p := ⟨gl, q, none⟩) HGL.out).trans hvq, (bb.frozen (p := ⟨gl, q, none⟩) HGL.out).trans hfq⟩)
      clear hvq hfq
      go_wp2_with fail
      clear d0 d1 f1
      refine region_K 7 (fun W => W.cell? ⟨w2.heap.size, 1, none⟩ = some (.slice (some ⟨gl, 0, none⟩) k c') ∧ W.cell? ⟨gl, q, none⟩ = some vq ∧ W.frozen? ⟨gl, q, none⟩ = false) (by kernel_rfl) ?_ (fun hHeld => ?_)
      · exact HK'.out _ ((Below.refl _ wr).drew)
      refine anyK_take (i := 0) (v := ?v201) rfl (by kernel_rfl) (by kernel_rfl) (by kernel_rfl) (by kernel_rfl) (fun _ _ _ h => h) (by rfl) hHeld ?hy201 (some 47) (by rfl) ?rest201
      case hy201 => (intro W hSw; (try dsimp only at hSw); go_simp; (try with_reducible rfl))
      try simp only [Act.put]
      try simp only [List.setIfInBounds_toArray]
      try simp only [List.set_cons_succ, List.set_cons_zero]
      refine anyK_take (i := 1) (v := ?v202) rfl (by kernel_rfl) (by kernel_rfl) (by kernel_rfl) (by kernel_rfl) (fun _ _ _ h => h) (by rfl) hHeld ?hy202 (some 48) (by rfl) ?rest202
      case hy202 => (intro W hSw; (try dsimp only at hSw); go_simp; (try with_reducible rfl))
      try simp only [Act.put]
      try simp only [List.setIfInBounds_toArray]
      try simp only [List.set_cons_succ, List.set_cons_zero]
      refine anyK_take (i := 2) (v := ?v203) rfl (by kernel_rfl) (by kernel_rfl) (by kernel_rfl) (by kernel_rfl) (fun _ _ _ h => h) (by rfl) hHeld ?hy203 (some 49) (by rfl) ?rest203
      case hy203 => (intro W hSw; (try dsimp only at hSw); go_simp; (try with_reducible rfl))
      try simp only [Act.put]
      try simp only [List.setIfInBounds_toArray]
      try simp only [List.set_cons_succ, List.set_cons_zero]
      refine anyK_take (i := 4) (v := ?v204) rfl (by kernel_rfl) (by kernel_rfl) (by kernel_rfl) (by kernel_rfl) (fun _ _ _ h => h) (by rfl) hHeld ?hy204 (some 51) (by rfl) ?rest204
      case hy204 => (intro W hSw; (try dsimp only at hSw); go_simp; (try with_reducible rfl))
      try simp only [Act.put]
      try simp only [List.setIfInBounds_toArray]
      try simp only [List.set_cons_succ, List.set_cons_zero]
      refine anyK_step (i := 3) (by kernel_rfl) rfl (fun K hK => ?_)
      go_simp
      refine hK.out _ _ ?_ (fun hH2 => ?_)
      · exact HK'.out _ ((bel_al (Below.refl _ wr) _).drew)
      clear hK K hHeld
      have hHeld := hH2
      clear hH2
      try simp only [Act.put]
      try simp only [List.setIfInBounds_toArray]
      try simp only [List.set_cons_succ, List.set_cons_zero]
      refine anyK_step (i := 5) (by kernel_rfl) rfl (fun K hK => ?_)
      refine step_append_row (by rfl) _ _ _ (by rfl) wr.heap.size 5 k0' (.int .u8 0) 1 1 Try.underlying22 ki kz0 kz1 kz2 rfl (by omega) (.slice (some ⟨wr.heap.size, 0, none⟩) 0 0) 0 [] (by rfl) (by simpa using H0.out.drew) ad nd cd (bys zs) (by rfl) (by rw [bys_length, HDL.out, Nat.mul_one]) ((HD.out.below (bel_al (Below.refl _ wr) _).drew (Nat.le_refl _)).news' HNI.out) HD.out.nil0 (bys_one _) (by unfold maxLen; omega) (by omega) (by simp) ?_
      intro av cv u' hob hgb
      rw [Nat.zero_add, List.nil_append] at hob
      have bu := ((bel_al (Below.refl wr.heap.size wr) (.cells #[] 5)).drew).grown hgb (by simp) (fun q hq => by cases hq; exact Nat.le_refl _)
      have HO1 := hid hob
      have HBU := hid bu
      clear hob hgb bu
      simp only [Nat.zero_add]
      refine hK.out _ _ ?_ (fun hH2 => ?_)
      · exact HK'.out _ HBU.out
      clear hK K hHeld
      have hHeld := hH2
      clear hH2
      try simp only [Act.put]
      try simp only [List.setIfInBounds_toArray]
      try simp only [List.set_cons_succ, List.set_cons_zero]
      refine anyK_take (i := 6) (v := ?v207) rfl (by kernel_rfl) (by kernel_rfl) (by kernel_rfl) (by kernel_rfl) (fun _ _ _ h => h) (by rfl) hHeld ?hy207 (some 53) (by rfl) ?rest207
      case hy207 => (intro W hSw; (try dsimp only at hSw); go_simp; (try with_reducible rfl))
      try simp only [Act.put]
      try simp only [List.setIfInBounds_toArray]
      try simp only [List.set_cons_succ, List.set_cons_zero]
      refine anyK_last (by kernel_rfl) rfl (fun K hK => ?_)
      go_simp
      refine hK.out _ _ ?_
      clear hK K hHeld
      refine anyK_done (by kernel_rfl) ?_ _
      have hlo : w1.heap.size ≤ wr.heap.size := by have := HLT.out; have := LB.out; omega
      have L3 := HL.out.put (i := q) HBU.out hlo (by rw [HDL.out]; exact HO1.out) HD0.out.bd (by omega)
      rw [HLAY.out] at L3
      have HL3 := hid L3
      have R3 := hid (Liv.put_at (v := .slice av nd cv) (i := q) HBU.out R1.out HN1.out)
      have B3 := hid ((HB.out.trans (HBU.out.mono HB.out.size)).setCell (p := ⟨gl, q, none⟩) (by have := (HL.out.own.lt gl rfl).1; have := LO.out; show w.heap.size ≤ gl; omega) (.slice av nd cv))
      clear L3 HL R1 HB HBU HO1 HK' H0 HD HN1 HN2
      generalize u'.setCell ⟨gl, q, none⟩ (.slice av nd cv) = W6 at *
      obtain ⟨d0, d1⟩ := HL3.out.box
      have f0 := HL3.out.fz 0
      have HLT3 := hid HL3.out.lt
      have HL4 := hid (HL3.out.lsn lsn)
      have R4 := hid ((heap_set_ne W6 w2.heap.size 0 (w.heap.size + 1) (.int .i64 lsn) (by have := LO.out; have := LB.out; omega)).trans R3.out)
      have B4 := hid (B3.out.setCell (p := ⟨w2.heap.size, 0, none⟩) (by have := LO.out; have := LB.out; show w.heap.size ≤ w2.heap.size; omega) (.int .i64 lsn))
      clear HL3 R3 B3
      go_wp2_with fail
      clear d0 d1 f0
      generalize W6.setCell ⟨w2.heap.size, 0, none⟩ (.int .i64 lsn) = W7 at *
      refine (spec_PageUsed lsn c' HL4.out.reads HLK.out).mono ?_
      rintro e w8 ⟨rfl, b⟩
      have HL5 := hid (HL4.out.below b (Nat.le_refl _))
      have R1 := hid ((b.block _ (by have := HL4.out.lt; have := LO.out; have := LB.out; omega)).trans R4.out)
      have HB := hid (B4.out.trans (b.mono B4.out.size))
      clear b HL4 R4 B4
      rcases usedP_bd (L := lsn) (ss := layP ss q zs) with ⟨e1, e2⟩ | ⟨e1, e2, e3⟩
      · rw [e2]
        have HEE := hid e1
        clear e1 e2
        have HO := hid (show putOk L ss (q : Int) zs lsn = false from HPK.out.trans HEE.out)
        go_wp2_with (refine wpList_store_row rfl 26 (.tmp 8) (.tmp 59) rfl (w.heap.size + 1) #[.int .i64 0, .slice none 0 0] rfl rfl 26 _ R1.out ?s1 ?s2 ?s3 ?_)
        case s1 => exact size_pg
        case s2 => rfl
        case s3 => simp [Value.oneCell']
        obtain ⟨rfl, rfl⟩ : 0 = RL ∧ [] = RS := Prod.mk.inj ((putP_no HO.out).symm.trans HR.out)
        obtain rfl : false = ok := HO.out.symm.trans HK.out
        obtain rfl : 0 = m := HM.out
        exact bodyPost_ret (results_cell_tmp7 Try.results14 _ _ (w.heap.size + 1) 26 _ (0, 0) _ rfl (setRow_heap _ _ _ _ _ _ R1.out) Try.underlying26 rfl size_pg) rfl ⟨none, 0, rfl, OwnP.nil _ _ _, below_setRow HB.out (by omega) _⟩
      · have HEE := hid e1
        obtain ⟨u2, hu2⟩ : ∃ u2, usedP lsn (layP ss q zs) = u2 := ⟨_, rfl⟩
        rw [hu2] at e2 e3 ⊢
        have qu2 : ¬ u2 < 0 := by omega
        clear e1 hu2
        obtain ⟨d0, d1⟩ := HL5.out.box
        have HOK := hid (show putOk L ss (q : Int) zs lsn = true from HPK.out.trans HEE.out)
        obtain ⟨rfl, rfl⟩ : lsn = RL ∧ layP ss q zs = RS := Prod.mk.inj ((putP_yes HOK.out).symm.trans HR.out)
        obtain rfl : true = ok := HOK.out.symm.trans HK.out
        obtain rfl : k = m := HLK.out.symm.trans HM.out
        go_wp2_with (refine wpList_store_row rfl 26 (.tmp 8) (.tmp 60) rfl (w.heap.size + 1) #[.int .i64 lsn, .slice (some ⟨gl, 0, none⟩) k c'] rfl rfl 26 _ R1.out ?s1 ?s2 ?s3 ?_)
        case s1 => exact size_pg
        case s2 => rfl
        case s3 => simp [Value.oneCell']
        have L6 := HL5.out.beside R1.out (by decide) (by decide) (grown_row7 w8 (w.heap.size + 1) #[.int .i64 lsn, .slice (some ⟨gl, 0, none⟩) k c']) (by have := LO.out; have := LB.out; omega)
        exact bodyPost_ret (results_cell_tmp7 Try.results14 _ _ (w.heap.size + 1) 26 _ (0, 0) _ rfl (setRow_heap _ _ _ _ _ _ R1.out) Try.underlying26 rfl size_pg) rfl ⟨_, _, rfl, L6.ownP.mono (by have := LO.out; omega) (Nat.le_refl _), below_setRow HB.out (by omega) _⟩
end Go.Proofs.Ytioefplkadpfnaa
/- The contract of the specification's PageClear. Conditions: lists of at most 2^47. -/

namespace Go.Proofs.Ytioefplkadpfnaa
open Go.RowKit
set_option maxRecDepth 100000

section
variable {L : Int} {ss : List (List Int)} {slot : Int} {lsn : Int}
theorem clearP_no (h : clearOk L ss slot lsn = false) : clearP L ss slot lsn = (0, []) := by unfold clearP; rw [if_neg (by simp [h])]; rfl
theorem clearP_yes (h : clearOk L ss slot lsn = true) : clearP L ss slot lsn = (lsn, trimP (layP ss slot.toNat [])) := by unfold clearP; rw [if_pos h]
theorem clearOk_yes (h1 : okP L ss = true) (h2 : 0 ≤ slot ∧ slot ≤ (ss.length : Int) - 1) (h4 : 1 ≤ lsn ∧ lsn ≤ 1000000) : clearOk L ss slot lsn = true := by
  unfold clearOk; rw [h1, decide_eq_true h2, decide_eq_true h4]; rfl
theorem clearOk_1 (h1 : okP L ss = false) : clearOk L ss slot lsn = false := by unfold clearOk; rw [h1]; rfl
theorem clearOk_2 (h : ¬ (0 ≤ slot ∧ slot ≤ (ss.length : Int) - 1)) : clearOk L ss slot lsn = false := by unfold clearOk; rw [decide_eq_false h]; simp
theorem clearOk_3 (h : ¬ (1 ≤ lsn ∧ lsn ≤ 1000000)) : clearOk L ss slot lsn = false := by unfold clearOk; rw [decide_eq_false h]; simp
end
theorem layP_set (ss : List (List Int)) (q : Nat) (z : List Int) (h : q < ss.length) : layP ss q z = ss.set q z := by unfold layP; rw [show q + 1 - ss.length = 0 by omega]; simp

set_option maxHeartbeats 6400000 in
theorem spec_PageClear (L : Int) {a : Option Addr} {n : Nat} (c : Nat) {ss : List (List Int)} (slot : Int) (lsn : Int) {w : World} (h : ReadsS w a ss) (hl : ss.length = n)
    {RL : Int} {RS : List (List Int)} {ok : Bool} {m : Nat} (hR : clearP L ss slot lsn = (RL, RS)) (hk : clearOk L ss slot lsn = ok) (hm : RS.length = m) :
    Calls Try.prog 74 #[.agg #[.int .i64 L, .slice a n c], .int .i64 slot, .int .i64 lsn] w fun e w' => ∃ a' c', e = .returned (.tuple #[.agg #[.int .i64 RL, .slice a' m c'], .bool ok]) ∧ OwnP w' w.heap.size w'.heap.size (.slice a' m c') RS ∧ Below w.heap.size w w' := by
  have HR := hid hR
  have HK := hid hk
  have HM := hid hm
  clear hR hk hm
  have HB := hid (two w (.cells #[.int .i64 L, .slice a n c] 26) (.cells #[.int .i64 0, .slice none 0 0] 26))
  have HX := hid (show ArgP _ _ _ _ _ _ _ from (ArgP.new L n c h 26 w.heap.size rfl).alloc (.cells #[.int .i64 0, .slice none 0 0] 26))
  have R1 := hid (heap_new2 w (.cells #[.int .i64 L, .slice a n c] 26) (.cells #[.int .i64 0, .slice none 0 0] 26))
  have HSZ := hid (show w.heap.size + 2 ≤ ((w.alloc (.cells #[.int .i64 L, .slice a n c] 26)).alloc (.cells #[.int .i64 0, .slice none 0 0] 26)).heap.size by simp)
  have HU := hid (usedP_bd (L := L) (ss := ss))
  clear h
  go_enter Try.func74, Try.ntmps74
  go_wp2_with fail
  generalize (w.alloc (.cells #[.int .i64 L, .slice a n c] 26)).alloc (.cells #[.int .i64 0, .slice none 0 0] 26) = W at *
  refine (spec_PageUsed L c HX.out.reads hl).mono ?_
  rintro e w1 ⟨rfl, b⟩
  replace HX := hid (HX.out.below b (Nat.le_refl _))
  replace R1 := hid ((b.block _ (by have := HSZ.out; omega)).trans R1.out)
  replace HB := hid (HB.out.trans (b.mono HB.out.size))
  replace HSZ := hid (Nat.le_trans HSZ.out b.size)
  clear b
  rcases HU.out with ⟨e1, e2⟩ | ⟨e1, e2, e3⟩
  · rw [e2]
    have HE := hid e1
    clear e1 e2
    have HO := hid (show clearOk L ss slot lsn = false from clearOk_1 HE.out)
    go_wp2_with (refine wpList_store_row rfl 26 (.tmp 6) (.tmp 26) rfl (w.heap.size + 1) #[.int .i64 0, .slice none 0 0] rfl rfl 26 _ R1.out ?s1 ?s2 ?s3 ?_)
    case s1 => exact size_pg
    case s2 => rfl
    case s3 => simp [Value.oneCell']
    obtain ⟨rfl, rfl⟩ : 0 = RL ∧ [] = RS := Prod.mk.inj ((clearP_no HO.out).symm.trans HR.out)
    obtain rfl : false = ok := HO.out.symm.trans HK.out
    obtain rfl : 0 = m := HM.out
    exact bodyPost_ret (results_cell_tmp7 Try.results74 _ _ (w.heap.size + 1) 26 _ (0, 0) _ rfl (setRow_heap _ _ _ _ _ _ R1.out) Try.underlying26 rfl size_pg) rfl ⟨none, 0, rfl, OwnP.nil _ _ _, below_setRow HB.out (by omega) _⟩

  have HE := hid e1
  obtain ⟨u, hu⟩ : ∃ u, usedP L ss = u := ⟨_, rfl⟩
  rw [hu] at e2 e3 ⊢
  have qu : ¬ u < 0 := by omega
  clear e1 hu HU
  have hn16 : n ≤ 16 := by have := (okP_of HE.out).n; omega
  obtain ⟨c0, c1⟩ := HX.out.box
  go_wp2_with fail
  refine (spec_inP slot 0 ((n : Int) - 1) _).mono ?_
  rintro e w2 ⟨rfl, e1⟩
  subst w2
  by_cases hs : ¬ (0 ≤ slot ∧ slot ≤ (n : Int) - 1)
  · rw [decide_eq_false hs]
    have HO := hid (show clearOk L ss slot lsn = false from clearOk_2 (by rw [hl]; exact hs))
    go_wp2_with (refine wpList_store_row rfl 26 (.tmp 6) (.tmp 26) rfl (w.heap.size + 1) #[.int .i64 0, .slice none 0 0] rfl rfl 26 _ R1.out ?s1 ?s2 ?s3 ?_)
    case s1 => exact size_pg
    case s2 => rfl
    case s3 => simp [Value.oneCell']
    obtain ⟨rfl, rfl⟩ : 0 = RL ∧ [] = RS := Prod.mk.inj ((clearP_no HO.out).symm.trans HR.out)
    obtain rfl : false = ok := HO.out.symm.trans HK.out
    obtain rfl : 0 = m := HM.out
    exact bodyPost_ret (results_cell_tmp7 Try.results74 _ _ (w.heap.size + 1) 26 _ (0, 0) _ rfl (setRow_heap _ _ _ _ _ _ R1.out) Try.underlying26 rfl size_pg) rfl ⟨none, 0, rfl, OwnP.nil _ _ _, below_setRow HB.out (by omega) _⟩

  replace hs := Decidable.not_not.1 hs
  rw [decide_eq_true hs]
  obtain ⟨hs0, hs1⟩ := hs
  go_wp2_with fail
  refine (spec_inP lsn 1 1000000 _).mono ?_
  rintro e w2 ⟨rfl, e1⟩
  subst w2
  by_cases hs : ¬ (1 ≤ lsn ∧ lsn ≤ 1000000)
  · rw [decide_eq_false hs]
    have HO := hid (show clearOk L ss slot lsn = false from clearOk_3 hs)
    go_wp2_with (refine wpList_store_row rfl 26 (.tmp 6) (.tmp 26) rfl (w.heap.size + 1) #[.int .i64 0, .slice none 0 0] rfl rfl 26 _ R1.out ?s1 ?s2 ?s3 ?_)
    case s1 => exact size_pg
    case s2 => rfl
    case s3 => simp [Value.oneCell']
    obtain ⟨rfl, rfl⟩ : 0 = RL ∧ [] = RS := Prod.mk.inj ((clearP_no HO.out).symm.trans HR.out)
    obtain rfl : false = ok := HO.out.symm.trans HK.out
    obtain rfl : 0 = m := HM.out
    exact bodyPost_ret (results_cell_tmp7 Try.results74 _ _ (w.heap.size + 1) 26 _ (0, 0) _ rfl (setRow_heap _ _ _ _ _ _ R1.out) Try.underlying26 rfl size_pg) rfl ⟨none, 0, rfl, OwnP.nil _ _ _, below_setRow HB.out (by omega) _⟩

  replace hs := Decidable.not_not.1 hs
  rw [decide_eq_true hs]
  obtain ⟨hs2, hs3⟩ := hs
  obtain ⟨q, rfl⟩ := Int.eq_ofNat_of_zero_le hs0
  have hqn : (q : Int) < (n : Int) := by omega
  have HOK := hid (show clearOk L ss (q : Int) lsn = true from clearOk_yes HE.out ⟨hs0, by rw [hl]; exact hs1⟩ ⟨hs2, hs3⟩)
  have HZ92 := hid (fun i => Nat.le_trans ((okP_of HE.out).z i) (show 92 ≤ 2097152 by omega))
  go_wp2_with fail
  refine (spec_l7copy L c HX.out.reads hl (by omega) HZ92.out).mono ?_
  rintro e w2 ⟨a1, c1', rfl, o, b⟩
  replace R1 := hid ((b.block _ (by have := HSZ.out; omega)).trans R1.out)
  replace HB := hid (HB.out.trans (b.mono HB.out.size))
  have LO := hid (show w.heap.size + 2 ≤ w1.heap.size from HSZ.out)
  have LB := hid (show w1.heap.size ≤ w2.heap.size from b.size)
  replace HSZ := hid (Nat.le_trans HSZ.out b.size)
  have RG := hid (heap_alloc_new w2 (.cells #[.int .i64 L, .slice a1 n c1'] 26))
  have bA := Below.alloc1 w2 (.cells #[.int .i64 L, .slice a1 n c1'] 26)
  have zA := hid (alloc_size w2 (.cells #[.int .i64 L, .slice a1 n c1'] 26))
  have HO := hid (o.below bA (Nat.le_refl _))
  replace R1 := hid ((bA.block _ (by have := HSZ.out; omega)).trans R1.out)
  replace HB := hid (HB.out.trans (bA.mono HB.out.size))
  obtain ⟨xs0, ho0, hb0⟩ := HO.out.own
  rw [hl] at ho0
  have HL := hid (show Liv (w2.alloc (.cells #[.int .i64 L, .slice a1 n c1'] 26)) w1.heap.size w2.heap.size L a1 n c1' xs0 ss from ⟨RG.out, ho0, hb0.mono (Nat.le_refl _) (by have := zA.out; omega), hl⟩)
  obtain ⟨gl, cl, e0, hgl, hgl2⟩ := HL.out.own.form (by omega)
  obtain ⟨rfl, _, rfl⟩ := Value.slice.inj e0
  have HN1 := hid (show w.heap.size + 1 ≠ gl from fun e => own_nk HL.out.own R1.out (by decide) (by rw [e]; rfl))
  obtain ⟨vq, hvq⟩ : ∃ vq, (w2.alloc (.cells #[.int .i64 L, .slice (some ⟨gl, 0, none⟩) n c1'] 26)).cell? ⟨gl, q, none⟩ = some vq := ⟨_, (HL.out.own.cellAt q (by omega)).trans (List.getElem?_eq_getElem (by have := HL.out.own.1; omega))⟩
  have hfq := HL.out.own.frozenAt q
  have hnG : ¬ gl = w2.heap.size := fun e => own_nk HL.out.own HL.out.row (by decide) (by rw [e]; rfl)
  have hnG' : ¬ w2.heap.size = gl := fun e => hnG e.symm
  have HLT := hid HL.out.lt
  have L3 := HL.out.put (i := q) (z := []) (v := .slice none 0 0) (Below.refl _ _) (by have := HLT.out; have := LB.out; omega) (World.ownsRow_nil _ _ 5 1) (by simp) (by omega)
  rw [← layP_set ss q [] (by omega)] at L3
  have HL3 := hid L3
  have R3 := hid (Liv.put_at (v := .slice none 0 0) (i := q) (Below.refl _ _) R1.out HN1.out)
  have B3 := hid (HB.out.setCell (p := ⟨gl, q, none⟩) (by have := LO.out; show w.heap.size ≤ gl; omega) (.slice none 0 0))
  have HL4 := hid (HL3.out.lsn lsn)
  have R4 := hid ((heap_set_ne _ w2.heap.size 0 (w.heap.size + 1) (.int .i64 lsn) (by have := LO.out; have := LB.out; omega)).trans R3.out)
  have B4 := hid (B3.out.setCell (p := ⟨w2.heap.size, 0, none⟩) (by have := LO.out; have := LB.out; show w.heap.size ≤ w2.heap.size; omega) (.int .i64 lsn))
  have e3 := HL3.out.box.c0
  have e4 := HL3.out.box.c1
  have e5 := HL3.out.fz 0
  clear b o c0 c1 HX bA HO ho0 hb0 e0 hgl hgl2 L3 RG
  go_wp2_with fail
  clear e3 e4 e5 hvq hfq R1 R3 HB B3 HL HL3 HLT zA
  generalize ((w2.alloc (.cells #[.int .i64 L, .slice (some ⟨gl, 0, none⟩) n c1'] 26)).setCell ⟨gl, q, none⟩ (.slice none 0 0)).setCell ⟨w2.heap.size, 0, none⟩ (.int .i64 lsn) = W4 at *
  have HLN := hid (show (layP ss q []).length = n by rw [layP_set ss q [] (by omega), List.length_set, hl])
  go_loopg [] n (fun r wr => ∃ (k : Nat) (xs : List Value), r = k ∧ k ≤ n ∧ Hid (Liv wr w1.heap.size w2.heap.size lsn (some ⟨gl, 0, none⟩) k c1' xs ((layP ss q []).take k)) ∧ Hid (trimP (layP ss q []) = trimP ((layP ss q []).take k)) ∧ Hid (wr.heap[w.heap.size + 1]? = some (.cells #[.int .i64 0, .slice none 0 0] 26)) ∧ Hid (Below w.heap.size w wr))
  case atStart => exact ⟨n, xs0.set q (.slice none 0 0), rfl, Nat.le_refl _, hid (by rw [List.take_of_length_le (by have := HLN.out; omega)]; exact HL4.out), hid (by rw [List.take_of_length_le (by have := HLN.out; omega)]), R4, B4⟩
  case round =>
    clear HL4 R4 B4
    obtain ⟨k, xs, hrk, hkn, HL, HTR, R1, HB⟩ := hrel
    obtain ⟨d0, d1⟩ := HL.out.box
    have f1 := HL.out.fz 1
    have HLT := hid HL.out.lt
    by_cases hk0 : k = 0
    · subst hk0
      have e6 : trimP (layP ss q []) = (layP ss q []).take 0 := HTR.out.trans (trimP_ok (by simp))
      obtain ⟨rfl, rfl⟩ : lsn = RL ∧ trimP (layP ss q []) = RS := Prod.mk.inj ((clearP_yes HOK.out).symm.trans HR.out)
      obtain rfl : true = ok := HOK.out.symm.trans HK.out
      obtain rfl : 0 = m := by have := HM.out; rw [e6] at this; simpa using this
      have HE6 := hid e6
      clear e6
      have T1 := heap_setCell_same wr (w.heap.size + 1) 0 _ 26 (.int .i64 lsn) R1.out
      have T2 := hid (heap_setCell_same _ (w.heap.size + 1) 1 _ 26 (.slice (some ⟨gl, 0, none⟩) 0 c1') T1)
      have L5 := HL.out.beside R1.out (by decide) (by decide) (grown_set7 wr (w.heap.size + 1) 0 (.int .i64 lsn)) (by have := LO.out; have := LB.out; omega)
      have L6 := hid (L5.beside T1 (by decide) (by decide) (grown_set7 _ (w.heap.size + 1) 1 (.slice (some ⟨gl, 0, none⟩) 0 c1')) (by have := LO.out; have := LB.out; omega))
      have B6 := hid ((HB.out.setCell (p := ⟨w.heap.size + 1, 0, none⟩) (by simp) (.int .i64 lsn)).setCell (p := ⟨w.heap.size + 1, 1, none⟩) (by simp) (.slice (some ⟨gl, 0, none⟩) 0 c1'))
      have r0 := cell_of_row _ _ 0 _ _ _ R1.out
      have r1 := cell_of_row _ _ 1 _ _ _ R1.out
      have rf0 : wr.frozen? ⟨w.heap.size + 1, 0, none⟩ = false := frozen_of_row _ _ _ _ _ R1.out
      have rf1 : wr.frozen? ⟨w.heap.size + 1, 1, none⟩ = false := frozen_of_row _ _ _ _ _ R1.out
      replace r0 : wr.cell? ⟨w.heap.size + 1, 0, none⟩ = some (.int .i64 0) := r0
      replace r1 : wr.cell? ⟨w.heap.size + 1, 1, none⟩ = some (.slice none 0 0) := r1
      clear T1 L5
      go_wp2_with fail
      exact bodyPost_ret (results_cell_tmp7 Try.results74 _ _ (w.heap.size + 1) 26 _ (0, 0) _ rfl T2.out Try.underlying26 rfl size_pg) rfl ⟨_, _, rfl, by rw [HE6.out]; exact L6.out.ownP.mono (by have := LO.out; omega) (Nat.le_refl _), B6.out⟩
    have hk1 : (0 : Int) < (k : Int) := by omega
    obtain ⟨p, hp⟩ : ∃ p, k - 1 = p := ⟨_, rfl⟩
    have hp1 : (k : Int) - 1 = (p : Int) := by omega
    have hp2 : (0 : Int) ≤ (p : Int) := by omega
    have hp3 : (p : Int) < (k : Int) := by omega
    have hp4 : (p : Int) ≤ (k : Int) := by omega
    have hkc := hid (show k ≤ c1' by rcases HL.out.own.2 with ⟨e, _⟩ | ⟨g', cap, cur, e, _, _, h1, _⟩; cases e; (obtain ⟨_, _, rfl⟩ := Value.slice.inj e; exact h1))
    have hkc' : p ≤ c1' := by have := hkc.out; omega
    obtain ⟨av, cv, eR, _⟩ := HL.out.bands.row p
    have hcx : wr.cell? ⟨gl, p, none⟩ = some (xs.getD p nilS) := cell_getD HL.out.own (by omega)
    obtain ⟨z, hz⟩ : ∃ z, (((layP ss q []).take k).getD p []).length = z := ⟨_, rfl⟩
    rw [eR, hz] at hcx
    have HZ := hid hz
    have HP := hid hp
    have HP1 := hid hp1
    clear eR hz hp
    by_cases hz0 : z = 0
    · subst hz0
      have HL2 := hid (HL.out.cut (j := p) (by omega))
      have R2 := hid ((heap_set_ne wr w2.heap.size 1 (w.heap.size + 1) (.slice (some ⟨gl, 0, none⟩) p c1') (by have := LO.out; have := LB.out; omega)).trans R1.out)
      have B2 := hid (HB.out.setCell (p := ⟨w2.heap.size, 1, none⟩) (by have := LO.out; have := LB.out; show w.heap.size ≤ w2.heap.size; omega) (.slice (some ⟨gl, 0, none⟩) p c1'))
      have HTR2 := hid (show trimP (layP ss q []) = trimP ((layP ss q []).take p) by
        rw [HTR.out, trimP_take ((layP ss q []).take k) p (by have := HL.out.len; omega) (fun j h1 h2 => by have hL := HL.out.len; have ej : j = p := (by omega); rw [ej]; exact HZ.out), List.take_take, Nat.min_eq_left (by omega)])
      go_wp2_with fail
      go_roundg p
      case measure => omega
      case rel => exact ⟨p, xs.take p, rfl, by omega, hid (by have := HL2.out; rw [List.take_take, Nat.min_eq_left (by omega)] at this; exact this), HTR2, R2, B2⟩
    · have qz : ((z : Int) == 0) = false := by simpa using hz0
      have e6 : trimP (layP ss q []) = (layP ss q []).take k := HTR.out.trans (trimP_ok (fun _ => by have := HL.out.len; rw [this, HP.out, HZ.out]; omega))
      obtain ⟨rfl, rfl⟩ : lsn = RL ∧ trimP (layP ss q []) = RS := Prod.mk.inj ((clearP_yes HOK.out).symm.trans HR.out)
      obtain rfl : true = ok := HOK.out.symm.trans HK.out
      obtain rfl : k = m := by have := HM.out; rw [e6] at this; have := HL.out.len; omega
      have HE6 := hid e6
      clear e6
      have T1 := heap_setCell_same wr (w.heap.size + 1) 0 _ 26 (.int .i64 lsn) R1.out
      have T2 := hid (heap_setCell_same _ (w.heap.size + 1) 1 _ 26 (.slice (some ⟨gl, 0, none⟩) k c1') T1)
      have L5 := HL.out.beside R1.out (by decide) (by decide) (grown_set7 wr (w.heap.size + 1) 0 (.int .i64 lsn)) (by have := LO.out; have := LB.out; omega)
      have L6 := hid (L5.beside T1 (by decide) (by decide) (grown_set7 _ (w.heap.size + 1) 1 (.slice (some ⟨gl, 0, none⟩) k c1')) (by have := LO.out; have := LB.out; omega))
      have B6 := hid ((HB.out.setCell (p := ⟨w.heap.size + 1, 0, none⟩) (by simp) (.int .i64 lsn)).setCell (p := ⟨w.heap.size + 1, 1, none⟩) (by simp) (.slice (some ⟨gl, 0, none⟩) k c1'))
      have r0 := cell_of_row _ _ 0 _ _ _ R1.out
      have r1 := cell_of_row _ _ 1 _ _ _ R1.out
      have rf0 : wr.frozen? ⟨w.heap.size + 1, 0, none⟩ = false := frozen_of_row _ _ _ _ _ R1.out
      have rf1 : wr.frozen? ⟨w.heap.size + 1, 1, none⟩ = false := frozen_of_row _ _ _ _ _ R1.out
      replace r0 : wr.cell? ⟨w.heap.size + 1, 0, none⟩ = some (.int .i64 0) := r0
      replace r1 : wr.cell? ⟨w.heap.size + 1, 1, none⟩ = some (.slice none 0 0) := r1
      clear T1 L5
      go_wp2_with fail
      exact bodyPost_ret (results_cell_tmp7 Try.results74 _ _ (w.heap.size + 1) 26 _ (0, 0) _ rfl T2.out Try.underlying26 rfl size_pg) rfl ⟨_, _, rfl, by rw [HE6.out]; exact L6.out.ownP.mono (by have := LO.out; omega) (Nat.le_refl _), B6.out⟩
end Go.Proofs.Ytioefplkadpfnaa
/- Bounds of what is put and cleared; a cleared page is a page. No program, no conditions. -/

namespace Go.Proofs.Ytioefplkadpfnaa

theorem tot_set : ∀ (ss : List (List Int)) (q : Nat) (z : List Int), q < ss.length → tot (ss.set q z) + (ss.getD q []).length = tot ss + z.length
  | x :: xs, 0, z, _ => by simp [tot]; omega
  | x :: xs, q + 1, z, h => by
    have ih := tot_set xs q z (by simpa using h)
    simp only [List.set_cons_succ, tot, List.getD_cons_succ]
    omega
/-- Small slots. -/
structure SmP (ss : List (List Int)) : Prop where
  n : ss.length ≤ 16
  z : ∀ i, (ss.getD i []).length ≤ 92
  t : tot ss ≤ 240
theorem SmP.nil : SmP [] := ⟨by simp, by simp, by simp [tot]⟩
theorem SmP.ok {L : Int} {ss : List (List Int)} (h : okP L ss = true) : SmP ss := ⟨(okP_of h).n, (okP_of h).z, by have := (okP_of h).t; omega⟩
theorem put_small {L : Int} {ss : List (List Int)} {slot : Int} {z : List Int} {lsn RL : Int} {RS : List (List Int)} (hR : putP L ss slot z lsn = (RL, RS)) : SmP RS := by
  cases h : putOk L ss slot z lsn with
  | false =>
    obtain ⟨_, rfl⟩ : RL = 0 ∧ RS = [] := Prod.mk.inj (hR.symm.trans (putP_no h))
    exact SmP.nil
  | true =>
    obtain ⟨rfl, rfl⟩ : RL = lsn ∧ RS = layP ss slot.toNat z := Prod.mk.inj (hR.symm.trans (putP_yes h))
    unfold putOk at h
    simp only [Bool.and_eq_true] at h
    exact SmP.ok h.2
theorem getD_take {ss : List (List Int)} {k i : Nat} (h : i < k) : (ss.take k).getD i [] = ss.getD i [] := by
  rw [List.getD_eq_getElem?_getD, List.getD_eq_getElem?_getD, List.getElem?_take_of_lt h]
theorem trim_at {ss : List (List Int)} {i : Nat} (h : i < (trimP ss).length) : (trimP ss).getD i [] = ss.getD i [] := by
  conv => lhs; rw [trimP_pre ss]
  exact getD_take h
theorem trim_free {ss : List (List Int)} {i : Nat} (h : (trimP ss).length ≤ i) : (ss.getD i []).length = 0 := by
  induction hn : ss.length generalizing ss with
  | zero =>
    obtain rfl := List.eq_nil_of_length_eq_zero hn
    simp
  | succ n ih =>
    rcases List.eq_nil_or_concat ss with rfl | ⟨xs, z, rfl⟩
    · simp at hn
    · rw [List.concat_eq_append] at hn h ⊢
      by_cases hz : z.length = 0
      · rw [trimP_free xs z hz] at h
        rw [getD_app]
        split
        · exact ih h (by simpa using hn)
        · cases i - xs.length <;> simp [hz]
      · rw [trimP_end xs z hz] at h
        rw [List.getD_eq_getElem?_getD, List.getElem?_eq_none (by omega)]; simp
theorem tot_trim (ss : List (List Int)) : tot (trimP ss) = tot ss := by
  induction hn : ss.length generalizing ss with
  | zero =>
    obtain rfl := List.eq_nil_of_length_eq_zero hn
    rfl
  | succ n ih =>
    rcases List.eq_nil_or_concat ss with rfl | ⟨xs, z, rfl⟩
    · simp at hn
    · rw [List.concat_eq_append] at hn ⊢
      by_cases hz : z.length = 0
      · rw [trimP_free xs z hz, ih xs (by simpa using hn), tot_app]
        simp [tot, hz]
      · rw [trimP_end xs z hz]
theorem clear_ok {L : Int} {ss : List (List Int)} {q : Nat} {lsn : Int} (h : okP L ss = true) (hq : q < ss.length) (hl : 1 ≤ lsn ∧ lsn ≤ 1000000) : okP lsn (trimP (layP ss q [])) = true := by
  have k := okP_of h
  have t := tot_set ss q [] hq
  rw [layP_set ss q [] hq]
  have hle := trimP_len (ss.set q [])
  rw [List.length_set] at hle
  refine okP_mk ⟨by omega, hl.2, by have := k.n; omega, trimP_last _, fun i => ?_, ?_⟩
  · by_cases hi : i < (trimP (ss.set q [])).length
    · rw [trim_at hi, getD_set' _ _ _ _ _ hq]
      split
      · simp
      · exact k.z i
    · rw [List.getD_eq_getElem?_getD, List.getElem?_eq_none (by omega)]; simp
  · rw [tot_trim]
    have := k.t
    simp only [List.length_nil] at t
    omega
theorem clear_small {L : Int} {ss : List (List Int)} {slot lsn RL : Int} {RS : List (List Int)} (hR : clearP L ss slot lsn = (RL, RS)) : SmP RS := by
  cases h : clearOk L ss slot lsn with
  | false =>
    obtain ⟨_, rfl⟩ : RL = 0 ∧ RS = [] := Prod.mk.inj (hR.symm.trans (clearP_no h))
    exact SmP.nil
  | true =>
    obtain ⟨rfl, rfl⟩ : RL = lsn ∧ RS = trimP (layP ss slot.toNat []) := Prod.mk.inj (hR.symm.trans (clearP_yes h))
    unfold clearOk at h
    simp only [Bool.and_eq_true, decide_eq_true_eq] at h
    obtain ⟨⟨h1, h2⟩, h3⟩ := h
    exact SmP.ok (clear_ok h1 (by omega) h3)
end Go.Proofs.Ytioefplkadpfnaa
/- What a place is good for. No program, no conditions. -/


namespace Go.Proofs.Ytioefplkadpfnaa

theorem tot_lay {ss : List (List Int)} {q : Nat} {z : List Int} (hq : q ≤ ss.length) : tot (layP ss q z) + (ss.getD q []).length = tot ss + z.length := by
  rcases Nat.lt_or_ge q ss.length with h | h
  · rw [layP_set ss q z h]; exact tot_set ss q z h
  · obtain rfl : q = ss.length := by omega
    have e : layP ss ss.length z = ss ++ [z] := by
      unfold layP
      rw [show ss.length + 1 - ss.length = 1 by omega]
      simp
    rw [e, tot_app]
    simp [tot]
theorem lay_is {L : Int} {ss : List (List Int)} {q : Nat} {z : List Int} (h : okP L ss = true) (hq15 : q ≤ 15) (hz : 1 ≤ z.length ∧ z.length ≤ 92) : okP 5 (layP ss q z) = decide (1 + max ss.length (q + 1) + tot (layP ss q z) ≤ 240) := by
  have k := okP_of h
  by_cases ht : 1 + max ss.length (q + 1) + tot (layP ss q z) ≤ 240
  · rw [decide_eq_true ht]
    refine okP_mk ⟨by omega, by omega, by rw [layP_length]; have := k.n; omega, lay_end h (by omega), fun i => ?_, by rw [layP_length]; exact ht⟩
    rw [layP_at]
    split
    · omega
    · exact k.z i
  · rw [decide_eq_false ht]
    cases h5 : okP 5 (layP ss q z) with
    | false => rfl
    | true =>
      exfalso
      have := (okP_of h5).t
      rw [layP_length] at this
      exact ht this
theorem put_is {L : Int} {ss : List (List Int)} {q : Nat} {z : List Int} (h : okP L ss = true) (hz : 1 ≤ z.length ∧ z.length ≤ 92) : putOk L ss (q : Int) z 5 = decide (q ≤ 15 ∧ 1 + max ss.length (q + 1) + tot (layP ss q z) ≤ 240) := by
  by_cases h15 : q ≤ 15
  · rw [putOk_eq h ⟨by omega, by omega⟩ hz ⟨by omega, by omega⟩, Int.toNat_natCast, lay_is h h15 hz]
    simp [h15]
  · rw [putOk_2 (by omega), decide_eq_false (fun hh => h15 hh.1)]
theorem used_tot {L : Int} {ss : List (List Int)} (h : okP L ss = true) : usedP L ss = ((1 + ss.length + tot ss : Nat) : Int) := by rw [usedP_yes h]; omega
/-- A place that is found is a free slot or the next, and the bytes go there. -/
theorem place_yes {L : Int} {ss : List (List Int)} {z : List Int} (h : okP L ss = true) (hz : 1 ≤ z.length ∧ z.length ≤ 92) {s : Int} (hs : placeP L ss (z.length : Int) = s) (h0 : 0 ≤ s) :
    putOk L ss s z 5 = true ∧ (s = (ss.length : Int) ∨ ∃ q : Nat, s = (q : Int) ∧ q < ss.length ∧ (ss.getD q []).length = 0) := by
  have hu := used_tot h
  have hk := okP_of h
  have hz' : 1 ≤ (z.length : Int) ∧ (z.length : Int) ≤ 92 := by omega
  have back : backP L ss (z.length : Int) = s → putOk L ss s z 5 = true ∧ s = (ss.length : Int) := by
    intro e
    unfold backP at e
    split at e
    · rename_i hc
      subst e
      refine ⟨?_, rfl⟩
      rw [put_is h hz]
      have := tot_lay (z := z) (Nat.le_refl ss.length)
      have : (ss.getD ss.length []).length = 0 := by simp
      exact decide_eq_true ⟨by omega, by omega⟩
    · omega
  cases hf : freeP ss with
  | none =>
    rw [placeP_none h hz' hf] at hs
    exact ⟨(back hs).1, .inl (back hs).2⟩
  | some q =>
    obtain ⟨hq, he, _⟩ := freeP_is hf
    by_cases hfit : usedP L ss + (z.length : Int) ≤ 240
    · rw [placeP_free h hz' hf hfit] at hs
      subst hs
      refine ⟨?_, .inr ⟨q, rfl, hq, he⟩⟩
      rw [put_is h hz]
      have := tot_lay (z := z) (Nat.le_of_lt hq)
      have := hk.n
      exact decide_eq_true ⟨by omega, by omega⟩
    · rw [placeP_full h hz' hf hfit] at hs
      exact ⟨(back hs).1, .inl (back hs).2⟩
/-- Where no place is found no free slot and not the next takes the bytes. -/
theorem place_none {L : Int} {ss : List (List Int)} {z : List Int} (h : okP L ss = true) (hz : 1 ≤ z.length ∧ z.length ≤ 92) (hs : placeP L ss (z.length : Int) < 0) (q : Nat) (hq : q ≤ ss.length) (he : q = ss.length ∨ (ss.getD q []).length = 0) : putOk L ss (q : Int) z 5 = false := by
  have hu := used_tot h
  have hz' : 1 ≤ (z.length : Int) ∧ (z.length : Int) ≤ 92 := by omega
  have hb : ¬ (ss.length < 16 ∧ usedP L ss + 1 + (z.length : Int) ≤ 240) ∧ (freeP ss = none ∨ ¬ usedP L ss + (z.length : Int) ≤ 240) := by
    have bk : backP L ss (z.length : Int) < 0 → ¬ (ss.length < 16 ∧ usedP L ss + 1 + (z.length : Int) ≤ 240) := by
      intro e hc
      unfold backP at e
      rw [if_pos hc] at e
      omega
    cases hf : freeP ss with
    | none =>
      rw [placeP_none h hz' hf] at hs
      exact ⟨bk hs, .inl rfl⟩
    | some k =>
      by_cases hfit : usedP L ss + (z.length : Int) ≤ 240
      · rw [placeP_free h hz' hf hfit] at hs
        omega
      · rw [placeP_full h hz' hf hfit] at hs
        exact ⟨bk hs, .inr hfit⟩
  rw [put_is h hz]
  have ht := tot_lay (z := z) hq
  refine decide_eq_false ?_
  rintro ⟨h15, h240⟩
  rcases Nat.lt_or_ge q ss.length with hlt | hge
  · have h0 : (ss.getD q []).length = 0 := by rcases he with e | e <;> omega
    rcases hb.2 with hn | hn
    · exact freeP_not hn q hlt h0
    · omega
  · obtain rfl : q = ss.length := by omega
    have h0 : (ss.getD ss.length []).length = 0 := by simp
    exact hb.1 ⟨by omega, by omega⟩
end Go.Proofs.Ytioefplkadpfnaa
/- Plain arithmetic on numbers as bytes, low first. No conditions. -/

namespace Go.Proofs.Ytioefplkadpfnaa
open Go.RowKit

/-- n behind i bytes. -/
def sh (n i : Nat) : Nat := n / 256 ^ i
theorem sh_zero (n : Nat) : sh n 0 = n := by simp [sh]
theorem sh_succ (n i : Nat) : sh n (i + 1) = sh n i / 256 := by simp [sh, Nat.pow_succ, Nat.div_div_eq_div_mul]
theorem sh_le (n i : Nat) : sh n i ≤ n := Nat.div_le_self _ _

/-- The lowest 'size' bytes of n, low first. -/
def dig (n size : Nat) : List Int := (List.range size).map fun i => ((sh n i : Nat) : Int) % 256
theorem dig_length (n size : Nat) : (dig n size).length = size := by simp [dig]
theorem dig_succ (n i : Nat) : dig n (i + 1) = dig n i ++ [((sh n i : Nat) : Int) % 256] := by simp [dig, List.range_succ]
theorem dig_zero (n : Nat) : dig n 0 = [] := rfl
theorem dig_at (n size i : Nat) (h : i < size) : (dig n size).getD i 0 = ((sh n i : Nat) : Int) % 256 := by simp [dig, h]
theorem dig_bd (n size i : Nat) : 0 ≤ (dig n size).getD i 0 ∧ (dig n size).getD i 0 ≤ 255 := by
  by_cases h : i < size
  · rw [dig_at n size i h]; omega
  · simp [dig, h]

/-- What PutNum answers. -/
def putL (n size : Int) : List Int := if 1 ≤ size ∧ size ≤ 8 ∧ 0 ≤ n ∧ sh n.toNat size.toNat = 0 then dig n.toNat size.toNat else []
theorem putL_bd (n size : Int) (i : Nat) : 0 ≤ (putL n size).getD i 0 ∧ (putL n size).getD i 0 ≤ 255 := by
  unfold putL; split
  · exact dig_bd _ _ _
  · simp
theorem putL_no (n size : Int) (h : ¬ (1 ≤ size ∧ size ≤ 8 ∧ 0 ≤ n)) : putL n size = [] := by
  unfold putL; rw [if_neg (by omega)]
theorem putL_big (n size : Nat) (h : 0 < sh n size) : putL n size = [] := by
  unfold putL; rw [if_neg (by simp; omega)]
theorem putL_yes (n size : Nat) (h1 : 1 ≤ size) (h8 : size ≤ 8) (h : sh n size = 0) : putL n size = dig n size := by
  unfold putL; rw [if_pos (by simp; omega)]; simp
theorem putL_length (n size : Int) : (putL n size).length ≤ 8 := by
  unfold putL; split
  · rw [dig_length]; omega
  · simp
end Go.Proofs.Ytioefplkadpfnaa
/- A page's bytes, plain: the body, the four sectors. No program, no conditions. -/


namespace Go.Proofs.Ytioefplkadpfnaa

def lensP (ss : List (List Int)) : List Int := ss.map fun z => (z.length : Int)
def headP (ss : List (List Int)) : List Int := (ss.length : Int) :: lensP ss
def fillP (zs : List Int) : List Int := zs ++ List.replicate (240 - zs.length) 0
def bodyP (ss : List (List Int)) : List Int := fillP (headP ss ++ ss.flatten)
def secsP (L : Int) (body : List Int) : Nat → List Int
  | 0 => []
  | k + 1 => secsP L body k ++ (putL L 4 ++ (body.drop (60 * k)).take 60)
def bytesP (L : Int) (ss : List (List Int)) : List Int := if okP L ss = true then secsP L (bodyP ss) 4 else []
theorem bytesP_no {L : Int} {ss : List (List Int)} (h : okP L ss = false) : bytesP L ss = [] := by unfold bytesP; rw [if_neg (by simp [h])]
theorem bytesP_yes {L : Int} {ss : List (List Int)} (h : okP L ss = true) : bytesP L ss = secsP L (bodyP ss) 4 := by unfold bytesP; rw [if_pos h]

theorem lensP_snoc (ss : List (List Int)) (k : Nat) (h : k < ss.length) : lensP (ss.take (k + 1)) = lensP (ss.take k) ++ [((ss.getD k []).length : Int)] := by
  unfold lensP
  rw [List.take_succ_eq_append_getElem h, List.map_append]
  simp [List.getD, h]
theorem lensP_len (ss : List (List Int)) : (lensP ss).length = ss.length := by simp [lensP]
theorem headP_len (ss : List (List Int)) : (headP ss ++ ss.flatten).length = 1 + ss.length + tot ss := by
  simp only [headP, List.length_append, List.length_cons, lensP_len, flat_tot]; omega
theorem fillP_len {zs : List Int} (h : zs.length ≤ 240) : (fillP zs).length = 240 := by simp [fillP]; omega
theorem bodyP_len {L : Int} {ss : List (List Int)} (h : okP L ss = true) : (bodyP ss).length = 240 := by
  refine fillP_len ?_
  rw [headP_len]; exact (okP_of h).t
theorem putL4 (L : Int) (h0 : 0 ≤ L) (h1 : L ≤ 1000000) : (putL L 4).length = 4 ∧ putL L 4 = dig L.toNat 4 := by
  have e : putL L 4 = dig L.toNat 4 := by
    obtain ⟨n, rfl⟩ := Int.eq_ofNat_of_zero_le h0
    rw [show (4 : Int) = ((4 : Nat) : Int) from rfl, putL_yes n 4 (by omega) (by omega) (by
      simp only [sh]
      exact Nat.div_eq_of_lt (by have : (256 : Nat) ^ 4 = 4294967296 := by decide
                                 omega))]
    simp
  exact ⟨by rw [e, dig_length], e⟩
theorem secsP_len {L : Int} {body : List Int} (h : (putL L 4).length = 4) (hb : body.length = 240) : ∀ k, k ≤ 4 → (secsP L body k).length = 64 * k
  | 0, _ => rfl
  | k + 1, hk => by
    have := secsP_len h hb k (by omega)
    simp only [secsP, List.length_append, this, h, List.length_take, List.length_drop, hb]
    omega
theorem bytesP_len {L : Int} {ss : List (List Int)} (h : okP L ss = true) : (bytesP L ss).length = 256 := by
  rw [bytesP_yes h, secsP_len (putL4 L (okP_of h).l0 (okP_of h).l1).1 (bodyP_len h) 4 (by omega)]
def bdZ (zs : List Int) : Prop := ∀ i, 0 ≤ zs.getD i 0 ∧ zs.getD i 0 ≤ 255
theorem bdZ.app {A B : List Int} (ha : bdZ A) (hb : bdZ B) : bdZ (A ++ B) := by
  intro i
  rw [getD_app]
  split
  · exact ha i
  · exact hb _
theorem bdZ.mem {A : List Int} (h : ∀ x ∈ A, 0 ≤ x ∧ x ≤ 255) : bdZ A := by
  intro i
  rcases getD_mem_or A i 0 with e | e
  · rw [e]; omega
  · exact h _ e
theorem bdZ.of {A : List Int} (h : bdZ A) : ∀ x ∈ A, 0 ≤ x ∧ x ≤ 255 := by
  intro x hx
  obtain ⟨i, hi, rfl⟩ := List.mem_iff_getElem.1 hx
  have := h i
  simpa [List.getD, hi] using this
theorem bdZ.sub {A B : List Int} (h : bdZ A) (hs : ∀ x ∈ B, x ∈ A) : bdZ B := bdZ.mem fun x hx => h.of x (hs x hx)
theorem bdZ.rep (n : Nat) : bdZ (List.replicate n 0) := bdZ.mem fun x hx => by have := (List.mem_replicate.1 hx).2; omega
theorem flat_bd : ∀ {ss : List (List Int)}, (∀ z ∈ ss, bdZ z) → bdZ ss.flatten
  | [], _ => fun i => by simp
  | z :: ss, h => by
    rw [List.flatten_cons]
    exact (h z (by simp)).app (flat_bd fun y hy => h y (by simp [hy]))
theorem headP_bd {L : Int} {ss : List (List Int)} (h : okP L ss = true) : bdZ (headP ss) := by
  refine bdZ.mem fun x hx => ?_
  simp only [headP, lensP, List.mem_cons, List.mem_map] at hx
  rcases hx with rfl | ⟨z, hz, rfl⟩
  · have := (okP_of h).n; omega
  · obtain ⟨i, hi, rfl⟩ := List.mem_iff_getElem.1 hz
    have := (okP_of h).z i
    simp only [List.getD, List.getElem?_eq_getElem hi, Option.getD_some] at this
    omega
theorem bodyP_bd {L : Int} {ss : List (List Int)} (h : okP L ss = true) (hs : ∀ z ∈ ss, bdZ z) : bdZ (bodyP ss) := ((headP_bd h).app (flat_bd hs)).app (bdZ.rep _)
theorem secsP_bd {L : Int} {body : List Int} (hb : bdZ body) : ∀ k, bdZ (secsP L body k)
  | 0 => fun i => by simp [secsP]
  | k + 1 => (secsP_bd hb k).app ((show bdZ (putL L 4) from putL_bd L 4).app (hb.sub fun x hx => List.mem_of_mem_drop (List.mem_of_mem_take hx)))
theorem bytesP_bd {L : Int} {ss : List (List Int)} (hs : ∀ z ∈ ss, bdZ z) : bdZ (bytesP L ss) := by
  cases h : okP L ss with
  | false => rw [bytesP_no h]; exact fun i => by simp
  | true => rw [bytesP_yes h]; exact secsP_bd (bodyP_bd h hs) 4
theorem ReadsS.bd {w : World} {a : Option Addr} {ss : List (List Int)} (h : ReadsS w a ss) : ∀ z ∈ ss, bdZ z := by
  intro z hz
  obtain ⟨i, hi, rfl⟩ := List.mem_iff_getElem.1 hz
  rcases h.cells with h0 | ⟨b, off, _, hc⟩
  · omega
  · obtain ⟨v, _, _, _, _, r, _⟩ := hc i hi
    have := r.bd
    rw [show ss.getD i [] = ss[i] from by simp [List.getD, hi]] at this
    exact this
end Go.Proofs.Ytioefplkadpfnaa
/- Plain arithmetic: the number that bytes are, low first, and what GetNum answers. No conditions. -/

namespace Go.Proofs.Ytioefplkadpfnaa
open Go.RowKit

/-- The number that the c bytes from place k on are, low first. -/
def val (f : Nat → Int) : Nat → Nat → Int
  | _, 0 => 0
  | k, c + 1 => val f (k + 1) c * 256 + f k

theorem val_zero (f : Nat → Int) (k : Nat) : val f k 0 = 0 := rfl
theorem val_step (f : Nat → Int) (k size : Nat) (h : k < size) : val f k (size - k) = val f (k + 1) (size - (k + 1)) * 256 + f k := by
  obtain ⟨c, hc⟩ : ∃ c, size - k = c + 1 := ⟨size - k - 1, by omega⟩
  rw [hc, show size - (k + 1) = c by omega]; rfl
theorem val_nonneg (f : Nat → Int) (hf : ∀ j, 0 ≤ f j ∧ f j ≤ 255) : ∀ c k, 0 ≤ val f k c
  | 0, k => by simp [val]
  | c + 1, k => by have := val_nonneg f hf c (k + 1); have := hf k; simp only [val]; omega
theorem val_lt (f : Nat → Int) (hf : ∀ j, 0 ≤ f j ∧ f j ≤ 255) : ∀ c k, val f k c < 256 ^ c
  | 0, k => by simp [val]
  | c + 1, k => by
    have := val_lt f hf c (k + 1); have := hf k; simp only [val]
    have e : (256 : Int) ^ (c + 1) = 256 ^ c * 256 := by rw [Int.pow_succ]
    omega
theorem val_top (f : Nat → Int) (hf : ∀ j, 0 ≤ f j ∧ f j ≤ 255) : ∀ c k, f (k + c) ≤ 127 → val f k (c + 1) < 128 * 256 ^ c
  | 0, k, h => by simp [val] at h ⊢; omega
  | c + 1, k, h => by
    have := val_top f hf c (k + 1) (by rw [show k + 1 + c = k + (c + 1) by omega]; exact h)
    have := hf k
    have e : (256 : Int) ^ (c + 1) = 256 ^ c * 256 := by rw [Int.pow_succ]
    rw [show val f k (c + 1 + 1) = val f (k + 1) (c + 1) * 256 + f k from rfl]
    omega
theorem val_top_ge (f : Nat → Int) (hf : ∀ j, 0 ≤ f j ∧ f j ≤ 255) : ∀ c k, 128 ≤ f (k + c) → 128 * 256 ^ c ≤ val f k (c + 1)
  | 0, k, h => by simp [val] at h ⊢; omega
  | c + 1, k, h => by
    have := val_top_ge f hf c (k + 1) (by rw [show k + 1 + c = k + (c + 1) by omega]; exact h)
    have := hf k
    have e : (256 : Int) ^ (c + 1) = 256 ^ c * 256 := by rw [Int.pow_succ]
    rw [show val f k (c + 1 + 1) = val f (k + 1) (c + 1) * 256 + f k from rfl]
    omega

theorem pow256_le (c d : Nat) (h : c ≤ d) : (256 : Int) ^ c ≤ 256 ^ d := by
  induction h with
  | refl => exact Int.le_refl _
  | step h ih => rename_i m; have e : (256 : Int) ^ (m + 1) = 256 ^ m * 256 := by rw [Int.pow_succ]
                 have : (0 : Int) < 256 ^ m := Int.pow_pos (by decide)
                 omega

/-- Inside the loop nothing passes 2^55. -/
theorem val_in (f : Nat → Int) (hf : ∀ j, 0 ≤ f j ∧ f j ≤ 255) (k size : Nat) (h1 : 1 ≤ k) (hk : k ≤ size) (h8 : size ≤ 8) (ht : size = 8 → k ≤ 7 → f 7 ≤ 127) : val f k (size - k) ≤ 36028797018963967 := by
  by_cases e : size = 8 ∧ k ≤ 7
  · obtain ⟨rfl, h7⟩ := e
    have h := val_top f hf (7 - k) k (by rw [show k + (7 - k) = 7 by omega]; exact ht rfl h7)
    rw [show 7 - k + 1 = 8 - k by omega] at h
    have p := pow256_le (7 - k) 6 (by omega)
    have : (256 : Int) ^ 6 = 281474976710656 := by decide
    omega
  · have h := val_lt f hf (size - k) k
    have p := pow256_le (size - k) 6 (by omega)
    have : (256 : Int) ^ 6 = 281474976710656 := by decide
    omega
theorem val_56 (f : Nat → Int) (hf : ∀ j, 0 ≤ f j ∧ f j ≤ 255) (k size : Nat) (h1 : 1 ≤ k) (h8 : size ≤ 8) : val f k (size - k) ≤ 72057594037927935 := by
  have h := val_lt f hf (size - k) k
  have p := pow256_le (size - k) 7 (by omega)
  have : (256 : Int) ^ 7 = 72057594037927936 := by decide
  omega
theorem val_64 (f : Nat → Int) (hf : ∀ j, 0 ≤ f j ∧ f j ≤ 255) (k size : Nat) (h8 : size ≤ 8) : val f k (size - k) ≤ 18446744073709551615 := by
  have h := val_lt f hf (size - k) k
  have p := pow256_le (size - k) 8 (by omega)
  have : (256 : Int) ^ 8 = 18446744073709551616 := by decide
  omega

/-- The byte at a place, of the list zs. -/
def byteFrom (zs : List Int) (at' : Nat) (j : Nat) : Int := zs.getD (at' + j) 0
/-- The number that stands there. -/
def numAt (zs : List Int) (at' size : Int) : Int := val (byteFrom zs at'.toNat) 0 size.toNat
/-- Is there one? -/
def numOk (zs : List Int) (at' size : Int) : Bool := decide (1 ≤ size ∧ size ≤ 8 ∧ 0 ≤ at' ∧ at' + size ≤ zs.length ∧ numAt zs at' size ≤ 9223372036854775807)
/-- What GetNum answers beside it. -/
def numOf (zs : List Int) (at' size : Int) : Int := if numOk zs at' size = true then numAt zs at' size else 0
theorem num_no (zs : List Int) (at' size : Int) (h : ¬ (1 ≤ size ∧ size ≤ 8 ∧ 0 ≤ at' ∧ at' + size ≤ zs.length)) : numOk zs at' size = false ∧ numOf zs at' size = 0 := by
  have e : numOk zs at' size = false := by unfold numOk; rw [decide_eq_false]; omega
  exact ⟨e, by unfold numOf; rw [if_neg (by simp [e])]⟩
theorem num_big (zs : List Int) (at' size : Nat) (h : 9223372036854775807 < val (byteFrom zs at') 0 size) : numOk zs at' size = false ∧ numOf zs at' size = 0 := by
  have e : numOk zs at' size = false := by unfold numOk numAt; rw [decide_eq_false]; simp only [Int.toNat_natCast]; omega
  exact ⟨e, by unfold numOf; rw [if_neg (by simp [e])]⟩
theorem num_yes (zs : List Int) (at' size : Nat) (h1 : 1 ≤ size) (h8 : size ≤ 8) (hl : at' + size ≤ zs.length) (h : val (byteFrom zs at') 0 size ≤ 9223372036854775807) :
    numOk zs at' size = true ∧ numOf zs at' size = val (byteFrom zs at') 0 size := by
  have e : numOk zs at' size = true := by unfold numOk numAt; rw [decide_eq_true]; simp only [Int.toNat_natCast]; omega
  exact ⟨e, by unfold numOf; rw [if_pos e]; simp [numAt]⟩
end Go.Proofs.Ytioefplkadpfnaa
