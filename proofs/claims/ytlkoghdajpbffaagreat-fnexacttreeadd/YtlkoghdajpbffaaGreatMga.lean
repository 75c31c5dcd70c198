/- Texts of this proof in one: Sq Base Help. -/
import Derived.WalkKit
import Derived.WalkSpells
import Derived.Laws.CopyOwn
import Derived.Laws.Rows
import Derived.OpenShut
import Derived.Deep.Draws
import Derived.Test.YtlkoghdajpbffaaGreatRows
import Derived.Deep.QuietTactic
import Derived.BigQuiet
/- Short names for what the other texts say often. No statement of its own; no conditions. -/





namespace Go.Proofs.YtlkoghdajpbffaaGreat
open Go.RowKit
theorem qP : (∀ (a : Act) (d : Tmp) (v : Value), a.put (some d) v = { a with tmps := a.tmps.setIfInBounds d v }) ∧ (∀ (l : List Value) (i : Nat) (a : Value), l.toArray.setIfInBounds i a = (l.set i a).toArray) ∧ (∀ (a : Value) (l : List Value) (i : Nat) (b : Value), (a :: l).set (i + 1) b = a :: l.set i b) ∧ (∀ (a : Value) (l : List Value) (b : Value), (a :: l).set 0 b = b :: l) := ⟨fun _ _ _ => rfl, fun _ _ _ => List.setIfInBounds_toArray .., fun _ _ _ _ => rfl, fun _ _ _ => rfl⟩
theorem qN {n : Nat} : n ≤ n := Nat.le_refl n
theorem qL {α : Type _} {a : Array α} {i : Nat} {v : α} (h : a[i]? = some v) : i < a.size := (Array.getElem?_eq_some_iff.1 h).1
theorem qC {w : World} {p j : Nat} {cs : Array Value} {t : TypeId} {fz : Nat × Nat} {v : Value} (h : w.heap[p]? = some (.cells cs t fz)) (e : cs[j]? = some v := by rfl) : w.cell? ⟨p, j, none⟩ = some v := (cell_of_row w p j cs t fz h).trans e
end Go.Proofs.YtlkoghdajpbffaaGreat
/- Plain notions for the proofs of this seat: what a slice of bytes reads as, in a world; how that is kept. No statement of its own; no conditions. -/






namespace Go.Proofs.YtlkoghdajpbffaaGreat
open Go.RowKit
def bys (zs : List Int) : List Value := zs.map (Value.int .u8)
theorem bys_length (zs : List Int) : (bys zs).length = zs.length := by simp [bys]
structure Reads (w : World) (ad : Option Addr) (n : Nat) (zs : List Int) : Prop where
 len : zs.length = n
 cells : n = 0 ∨ ∃ b off, ad = some ⟨b, off, none⟩ ∧ ∀ i, i < n → w.cell? ⟨b, off + i, none⟩ = some (.int .u8 (zs.getD i 0))
 bd : ∀ i, 0 ≤ zs.getD i 0 ∧ zs.getD i 0 ≤ 255
theorem Reads.below {w w' : World} {ad : Option Addr} {n : Nat} {zs : List Int} (h : Reads w ad n zs) {B : Nat} (hb : Below B w w') (hB : w.heap.size ≤ B) : Reads w' ad n zs := by
 refine ⟨h.len, ?_, h.bd⟩
 rcases h.cells with h0 | ⟨b, off, rfl, hc⟩
 · exact .inl h0
 · refine .inr ⟨b, off, rfl, fun i hi => ?_⟩
   have hc' := hc i hi
   have := World.block_lt_of_cell? w _ hc'
   rw [hb.cell (p := ⟨b, off + i, none⟩) (by simp at this ⊢; omega)]
   exact hc'
theorem Reads.own {w : World} {base : Nat} {v : Value} {n : Nat} {zs : List Int} (h : w.ownsRow base 5 1 v n (bys zs)) (hbd : ∀ i, 0 ≤ zs.getD i 0 ∧ zs.getD i 0 ≤ 255) :
 ∃ ad cap, v = .slice ad n cap ∧ Reads w ad n zs ∧ (ad = none ∨ ∃ g, ad = some ⟨g, 0, none⟩ ∧ base ≤ g ∧ g < w.heap.size) := by
 have hl : zs.length = n := by have := h.1; simpa [bys] using this
 rcases h.2 with ⟨rfl, rfl⟩ | ⟨g, cap, cur, rfl, hb, hg, hnc, hcm, hcs, htake⟩
 · exact ⟨none, 0, rfl, ⟨hl, .inl rfl, hbd⟩, .inl rfl⟩
 · refine ⟨_, cap, rfl, ⟨hl, .inr ⟨g, 0, rfl, fun i hi => ?_⟩, hbd⟩, .inr ⟨g, rfl, hb, (qL hg)⟩⟩
   rw [Nat.zero_add, h.cellAt i (by omega)]
   simp [bys, hl, hi]
theorem hid {p : Prop} (h : p) : Hid p := h
structure Still (w w' : World) : Prop where
 os : w'.os = w.os
 tape : w'.tape = w.tape
 output : w'.output = w.output
 heap : w'.heap = w.heap
theorem Still.refl (w : World) : Still w w := ⟨rfl, rfl, rfl, rfl⟩
theorem Still.trans {a b c : World} (h : Still a b) (k : Still b c) : Still a c := ⟨k.os.trans h.os, k.tape.trans h.tape, k.output.trans h.output, k.heap.trans h.heap⟩
theorem Still.drewN (w : World) (n : Nat) : Still w (w.drewN n) := ⟨rfl, rfl, rfl, rfl⟩
theorem Still.drew (w : World) : Still w w.drew := ⟨rfl, rfl, rfl, rfl⟩
theorem Still.below {w w' : World} (h : Still w w') (B : Nat) : Below B w w' := ⟨h.os, h.tape, h.output, by rw [h.heap]; exact Nat.le_refl _, fun k _ => by rw [h.heap]⟩
theorem Still.size {w w' : World} (h : Still w w') : w'.heap.size = w.heap.size := by rw [h.heap]
theorem Still.cell {w w' : World} (h : Still w w') (a : Addr) : w'.cell? a = w.cell? a := by simp [World.cell?, h.heap]
theorem owns_below {w w' : World} {B : Nat} (hb : Below B w w') (hB : w.heap.size ≤ B) {base : Nat} {e : TypeId} {s : Nat} {v : Value} {n : Nat} {xs : List Value} (ho : w.ownsRow base e s v n xs) : w'.ownsRow base e s v n xs := by
 refine ⟨ho.1, ?_⟩
 rcases ho.2 with hn | ⟨g, cap, cur, rfl, hbg, hg, rest⟩
 · exact .inl hn
 · exact .inr ⟨g, cap, cur, rfl, hbg, by rw [hb.block g (by have := (qL hg); omega)]; exact hg, rest⟩
def marks (k : Int) (n : Nat) : List Int := (List.range n).map fun i => (k + (i : Nat)) % 256
theorem marks_length (k : Int) (n : Nat) : (marks k n).length = n := by simp [marks]
theorem marks_succ (k : Int) (n : Nat) : marks k (n + 1) = marks k n ++ [(k + (n : Nat)) % 256] := by simp [marks, List.range_succ]
theorem marks_at (k : Int) (n i : Nat) (h : i < n) : (marks k n).getD i 0 = (k + (i : Nat)) % 256 := by simp [marks, h]
theorem marks_bd (k : Int) (n i : Nat) : 0 ≤ (marks k n).getD i 0 ∧ (marks k n).getD i 0 ≤ 255 := by
 by_cases h : i < n
 · rw [marks_at k n i h]; omega
 · simp [marks, h]
theorem set_mid (A : List Value) (X : List Value) (j : Nat) (c : Value) (hA : A.length = j) (hX : j < X.length) : (A ++ X.drop j).set j c = (A ++ [c]) ++ X.drop (j + 1) := by
 rw [List.set_append_right _ _ (by omega), hA, Nat.sub_self, List.drop_eq_getElem_cons hX, List.set_cons_zero]; simp
theorem grown_trans {a b c : World} {row : Option Nat} (h : a.grownBy b row) (k : b.grownBy c row) : a.grownBy c row :=
 ⟨k.os.trans h.os, k.tape.trans h.tape, k.output.trans h.output, Nat.le_trans h.size k.size, fun i hi hr => (k.block i (Nat.lt_of_lt_of_le hi h.size) hr).trans (h.block i hi hr)⟩
theorem grown_refl (w : World) (row : Option Nat) : w.grownBy w row := ⟨rfl, rfl, rfl, Nat.le_refl _, fun _ _ _ => rfl⟩
theorem bys_append (a b : List Int) : bys (a ++ b) = bys a ++ bys b := by simp [bys]
theorem reads_in {w : World} {a : Option Addr} {len cap : Nat} {zs : List Int}
 (h : (a = none ∧ len = 0 ∧ cap = 0 ∧ zs = []) ∨ ∃ x, a = some x ∧ len ≤ cap ∧ cap ≤ maxLen ∧ zs.length = cap ∧ (∀ i, i < zs.length → w.cell? (x.add i) = some (.int .u8 (zs.getD i 0))) ∧ ∀ n ∈ zs, (Lit.int .u8 n).wf = true) :
 Reads w a len (zs.take len) := by
 rcases h with ⟨rfl, rfl, rfl, rfl⟩ | ⟨x, rfl, hlc, hm, hz, hc, hwf⟩
 · exact ⟨rfl, .inl rfl, by simp⟩
 · refine ⟨by simp; omega, ?_, ?_⟩
   · by_cases h0 : len = 0
     · exact .inl h0
     · obtain ⟨b, off, rfl, hc'⟩ := ints_at hc (by omega)
       refine .inr ⟨b, off, rfl, fun i hi => ?_⟩
       rw [hc' i (by omega)]
       simp [hi]
   · intro i
     by_cases hi : i < (zs.take len).length
     · rw [List.getD_eq_getElem?_getD, List.getElem?_eq_getElem hi]
       exact bounds_u8 (hwf _ (List.mem_of_mem_take (List.getElem_mem hi)))
     · rw [List.getD_eq_getElem?_getD, List.getElem?_eq_none (by omega)]; simp
theorem len_in {w : World} {a : Option Addr} {len cap : Nat} {zs : List Int} {k : IntKind}
 (h : (a = none ∧ len = 0 ∧ cap = 0 ∧ zs = []) ∨ ∃ x, a = some x ∧ len ≤ cap ∧ cap ≤ maxLen ∧ zs.length = cap ∧ (∀ i, i < zs.length → w.cell? (x.add i) = some (.int k (zs.getD i 0))) ∧ ∀ n ∈ zs, (Lit.int k n).wf = true) :
 len ≤ maxLen := by
 rcases h with ⟨_, rfl, _⟩ | ⟨_, _, h1, h2, _⟩
 · exact Nat.zero_le _
 · exact Nat.le_trans h1 h2
theorem Reads.news {w : World} {a : Addr} {n : Nat} {zs : List Int} (h : Reads w (some a) n zs) : ∀ j u, (bys zs)[j]? = some u → w.cell? (a.add j) = some u := by
 intro j u hu
 have hj : j < zs.length := by
  have := (List.getElem?_eq_some_iff.1 hu).1
  simpa [bys] using this
 rcases h.cells with h0 | ⟨b, off, hb, hc⟩
 · have := h.len; omega
 · cases hb
   have e : (⟨b, off, none⟩ : Addr).add j = ⟨b, off + j, none⟩ := by unfold Addr.add; split <;> simp_all
   rw [e, hc j (by have := h.len; omega)]
   simpa [bys, hj] using hu
theorem bys_one (zs : List Int) : ∀ u ∈ bys zs, u.oneCell' = true := by
 intro u hu
 simp only [bys, List.mem_map] at hu
 obtain ⟨x, _, rfl⟩ := hu
 rfl
end Go.Proofs.YtlkoghdajpbffaaGreat
/- The contracts of the law package's helpers: toByteS, eqByteS, markByteS, heldByteS. Conditions: lengths of at most 2^21 where memory is made or counted. -/




namespace Go.Proofs.YtlkoghdajpbffaaGreat
open Go.RowKit
set_option maxRecDepth 100000
theorem Tryz.info5 : (Tryz.prog.info? 5).map (fun i => (i.zero, i.size, i.bytes)) = some (some (.int .u8 0), 1, 1) := by kernel_rfl
theorem set_take_step (zs : List Int) (k : Nat) (hk : k < zs.length) (m : Nat) (hm : m = zs.length) :
 (bys (zs.take k) ++ List.replicate (m - k) (Value.int .u8 0)).set k (.int .u8 (zs.getD k 0)) = bys (zs.take (k + 1)) ++ List.replicate (m - (k + 1)) (Value.int .u8 0) := by
 subst hm
 apply List.ext_getElem?
 intro j
 simp only [bys, List.getElem?_set, List.getElem?_append, List.getElem?_map, List.getElem?_replicate, List.length_map, List.length_take, List.length_append, List.length_replicate, List.getElem?_take]
 by_cases h1 : k = j
 · subst h1
   simp [hk, show min (k + 1) zs.length = k + 1 by omega, show min k zs.length = k by omega, show zs.length - k ≠ 0 by omega]
 · by_cases h2 : j < k
   · simp [h1, show j < min k zs.length by omega, show j < min (k+1) zs.length by omega, show j < k + 1 by omega, h2]
   · by_cases h3 : j < zs.length
     · simp [h1, show ¬ j < min k zs.length by omega, show ¬ j < min (k+1) zs.length by omega, show j - min k zs.length < zs.length - k by omega, show j - min (k+1) zs.length < zs.length - (k+1) by omega]
     · simp [h1, show ¬ j < min k zs.length by omega, show ¬ j < min (k+1) zs.length by omega, show ¬ j - min k zs.length < zs.length - k by omega, show ¬ j - min (k+1) zs.length < zs.length - (k+1) by omega]
set_option maxHeartbeats 800000 in
theorem toByteS_pos (b off n cap : Nat) (zs : List Int) (w : World) (hz : zs.length = n) (hn : n ≤ 2097152) (hb : b < w.heap.size)
 (hc : ∀ i, i < n → w.cell? ⟨b, off + i, none⟩ = some (.int .u8 (zs.getD i 0))) :
 Calls Tryz.prog 26 #[.slice (some ⟨b, off, none⟩) n cap] w fun e w' =>
  e = .returned (.slice (some ⟨w.heap.size, 0, none⟩) n n) ∧ w'.ownsRow w.heap.size 5 1 (.slice (some ⟨w.heap.size, 0, none⟩) n n) n (bys zs) ∧ Below w.heap.size w w' := by
 obtain ⟨i0, hi, hz0, hz1, hz2⟩ := info_parts Tryz.info5
 go_enter Tryz.func26, Tryz.ntmps26
 go_wp2_with (at_make; refine wpList_make_full _ rfl _ _ 26 rfl w.heap.size 5 i0 (.int .u8 0) 1 Tryz.underlying26 hi hz0 hz1 _ _ _ _ n rfl rfl (by omega) (by omega) ?b2 ?b3 qN ?_)
 case b2 => rw [hz2]; omega
 case b3 => unfold maxLen; omega
 intro w0 hown0 hgrow0
 go_wp2
 go_loopw [4] (fun i wr => ∃ k : Nat, k ≤ n ∧ i = .int .i64 k ∧ wr.ownsRow w.heap.size 5 1 (.slice (some ⟨w.heap.size, 0, none⟩) n n) n (bys (zs.take k) ++ List.replicate (n - k) (Value.int .u8 0)) ∧ Below w.heap.size w wr)
  (fun i _ => n - (intOf i).toNat)
 case atStart =>
  refine ⟨0, Nat.zero_le _, rfl, ?_, (Below.refl _ _).grown hgrow0 qN (fun k h => by cases h)⟩
  rw [toList_madeCells_one] at hown0
  simpa [bys] using hown0
 case round =>
  obtain ⟨k, hk, rfl, hown, hnx⟩ := hrel
  by_cases hlt : k < n
  · have hcx : wr.cell? ⟨b, off + k, none⟩ = some (.int .u8 (zs.getD k 0)) := (hnx.cell (by exact hb)).trans (hc k hlt)
    have hcy : wr.cell? ⟨w.heap.size, k, none⟩ = some (.int .u8 0) := by
     rw [hown.cellAt k (by omega), List.getElem?_append_right (by simp [bys]; omega)]
     simp [bys, hz, Nat.min_eq_left hk, show 0 < n - k by omega]
    have hfr : wr.frozen? ⟨w.heap.size, k, none⟩ = false := hown.frozenAt k
    have R := hown.stored k (.int .u8 (zs.getD k 0))
    rw [set_take_step zs k (by omega) n hz.symm] at R
    have R1 := hid R
    clear R hown
    generalize zs.getD k 0 = c at hcx R1
    go_wp2
    go_roundw
    case rel => exact ⟨k + 1, by omega, by go_num, by simpa using R1.out.1, hnx.setCell qN _⟩
    case measure => simp [intOf]; omega
  · go_wp2
    go_ret
    have hkn : k = n := by omega
    subst hkn
    refine ⟨rfl, ?_, hnx⟩
    rw [List.take_of_length_le (by omega)] at hown
    simpa using hown
set_option maxHeartbeats 800000 in
theorem toByteS_zero (ad : Option Addr) (cap : Nat) (w : World) :
 Calls Tryz.prog 26 #[.slice ad 0 cap] w fun e w' =>
  e = .returned (.slice (some ⟨w.heap.size, 0, none⟩) 0 0) ∧ w'.ownsRow w.heap.size 5 1 (.slice (some ⟨w.heap.size, 0, none⟩) 0 0) 0 (bys []) ∧ Below w.heap.size w w' := by
 obtain ⟨i0, hi, hz0, hz1, hz2⟩ := info_parts Tryz.info5
 go_enter Tryz.func26, Tryz.ntmps26
 go_wp2_with (at_make; refine wpList_make_full _ rfl _ _ 26 rfl w.heap.size 5 i0 (.int .u8 0) 1 Tryz.underlying26 hi hz0 hz1 _ _ _ _ 0 rfl rfl (by omega) (by omega) ?b2 ?b3 qN ?_)
 case b2 => rw [hz2]; omega
 case b3 => unfold maxLen; omega
 intro w0 hown0 hgrow0
 have H0 := hid hown0
 clear hown0
 go_wp2
 go_loopw [4] (fun i wr => i = .int .i64 (0 : Nat) ∧ wr = w0) (fun i _ => 0)
 case atStart => exact ⟨rfl, rfl⟩
 case round =>
  obtain ⟨rfl, rfl⟩ := hrel
  go_wp2
  go_ret
  refine ⟨rfl, ?_, (Below.refl _ _).grown hgrow0 qN (fun k h => by cases h)⟩
  have h := H0.out
  simpa [bys, madeCells] using h
theorem toByteS_any {ad : Option Addr} {n : Nat} (cap : Nat) {zs : List Int} {w : World} (h : Reads w ad n zs) (hn : n ≤ 2097152) :
 Calls Tryz.prog 26 #[.slice ad n cap] w fun e w' =>
  e = .returned (.slice (some ⟨w.heap.size, 0, none⟩) n n) ∧ w'.ownsRow w.heap.size 5 1 (.slice (some ⟨w.heap.size, 0, none⟩) n n) n (bys zs) ∧ Below w.heap.size w w' := by
 obtain ⟨hl, hc, _⟩ := h
 by_cases h0 : n = 0
 · subst h0
   obtain rfl : zs = [] := List.eq_nil_of_length_eq_zero hl
   exact toByteS_zero ad cap w
 · rcases hc with h | ⟨b, off, rfl, hc⟩
   · exact absurd h h0
   · exact toByteS_pos b off n cap zs w hl hn (by have := World.block_lt_of_cell? w _ (hc 0 (by omega)); exact this) hc
set_option maxHeartbeats 800000 in
theorem eqByteS_pos (b off cap b' off' cap' n : Nat) (zs : List Int) (w : World) (hn : n ≤ 2097152)
 (hc : ∀ i, i < n → w.cell? ⟨b, off + i, none⟩ = some (.int .u8 (zs.getD i 0))) (hc' : ∀ i, i < n → w.cell? ⟨b', off' + i, none⟩ = some (.int .u8 (zs.getD i 0))) :
 Calls Tryz.prog 35 #[.slice (some ⟨b, off, none⟩) n cap, .slice (some ⟨b', off', none⟩) n cap'] w fun e w' => e = .returned (.bool true) ∧ Still w w' := by
 go_enter Tryz.func35, Tryz.ntmps35
 go_wp2
 go_loopw [5] (fun i wr => ∃ k m : Nat, k ≤ n ∧ i = .int .i64 k ∧ wr = w.drewN m) (fun i _ => n - (intOf i).toNat)
 case atStart => exact ⟨0, 0, Nat.zero_le _, rfl, rfl⟩
 case round =>
  obtain ⟨k, m, hk, rfl, rfl⟩ := hrel
  by_cases hlt : k < n
  · have h1 := hc k hlt
    have h2 := hc' k hlt
    generalize zs.getD k 0 = c at h1 h2
    have hlt' : (k : Int) < (n : Int) := by omega
    go_wp2
    go_quiet (fail)
    go_wp2
    go_roundw
    case rel => exact ⟨k + 1, _, by omega, by go_num, rfl⟩
    case measure => simp [intOf]; omega
  · go_wp2
    go_ret
    exact ⟨rfl, Still.drewN _ _⟩
set_option maxHeartbeats 800000 in
theorem eqByteS_zero (ad ad' : Option Addr) (cap cap' : Nat) (w : World) :
 Calls Tryz.prog 35 #[.slice ad 0 cap, .slice ad' 0 cap'] w fun e w' => e = .returned (.bool true) ∧ Still w w' := by
 go_enter Tryz.func35, Tryz.ntmps35
 go_wp2
 go_loopw [5] (fun i wr => i = .int .i64 (0 : Nat) ∧ wr = w) (fun _ _ => 0)
 case atStart => exact ⟨rfl, rfl⟩
 case round =>
  obtain ⟨rfl, rfl⟩ := hrel
  go_wp2
  go_ret
  exact ⟨rfl, Still.refl _⟩
theorem eqByteS_any {ad ad' : Option Addr} {n : Nat} (cap cap' : Nat) {zs : List Int} {w : World} (h : Reads w ad n zs) (h' : Reads w ad' n zs) (hn : n ≤ 2097152) :
 Calls Tryz.prog 35 #[.slice ad n cap, .slice ad' n cap'] w fun e w' => e = .returned (.bool true) ∧ Still w w' := by
 obtain ⟨hl, hc, _⟩ := h
 obtain ⟨hl', hc', _⟩ := h'
 by_cases h0 : n = 0
 · subst h0; exact eqByteS_zero ad ad' cap cap' w
 · rcases hc with h | ⟨b, off, rfl, hc⟩
   · exact absurd h h0
   rcases hc' with h | ⟨b', off', rfl, hc'⟩
   · exact absurd h h0
   exact eqByteS_pos b off cap b' off' cap' n zs w hn hc hc'
set_option maxHeartbeats 800000 in
theorem markByteS_pos (base g n cap : Nat) (k : Int) (xs : List Value) (w : World) (hn : n ≤ 2097152) (hk0 : 0 ≤ k) (hk1 : k ≤ 1000000000)
 (hown : w.ownsRow base 5 1 (.slice (some ⟨g, 0, none⟩) n cap) n xs) :
 Calls Tryz.prog 37 #[.slice (some ⟨g, 0, none⟩) n cap, .int .i64 k] w fun e w' =>
  e = .returned (.int .i64 (k + n)) ∧ w'.ownsRow base 5 1 (.slice (some ⟨g, 0, none⟩) n cap) n (bys (marks k n)) ∧ w.grownBy w' (some g) := by
 have hxl : xs.length = n := by have := hown.1; omega
 go_enter Tryz.func37, Tryz.ntmps37
 go_wp2
 go_loopw [1, 5] (fun kk i wr => ∃ j : Nat, j ≤ n ∧ i = .int .i64 j ∧ kk = .int .i64 (k + j) ∧ wr.ownsRow base 5 1 (.slice (some ⟨g, 0, none⟩) n cap) n (bys (marks k j) ++ xs.drop j) ∧ w.grownBy wr (some g)) (fun _ i _ => n - (intOf i).toNat)
 case atStart => exact ⟨0, Nat.zero_le _, rfl, by simp, by simpa [marks, bys] using hown, ⟨rfl, rfl, rfl, Nat.le_refl _, fun _ _ _ => rfl⟩⟩
 case round =>
  obtain ⟨j, hj, rfl, rfl, hown', hg⟩ := hrel
  by_cases hlt : j < n
  · have hcy : ∃ v, wr.cell? ⟨g, j, none⟩ = some v := by
     rw [hown'.cellAt j (by omega)]
     exact ⟨_, List.getElem?_eq_getElem (by simp [bys, marks]; omega)⟩
    obtain ⟨v, hcy⟩ := hcy
    have hfr : wr.frozen? ⟨g, j, none⟩ = false := hown'.frozenAt j
    have R := hown'.stored j (.int .u8 ((k + j) % 256))
    rw [set_mid _ xs j _ (by simp [bys, marks]) (by omega)] at R
    have R1 := hid R
    clear R hown' hown
    go_wp2
    go_roundw
    case rel =>
     refine ⟨j + 1, by omega, by go_num, by go_num, ?_, grown_trans hg R1.out.2⟩
     rw [marks_succ, bys_append]
     exact R1.out.1
    case measure => simp [intOf]; omega
  · go_wp2
    go_ret
    obtain rfl : j = n := by omega
    rw [List.drop_eq_nil_of_le (by omega), List.append_nil] at hown'
    exact ⟨rfl, hown', hg⟩
set_option maxHeartbeats 800000 in
theorem markByteS_zero (ad : Option Addr) (cap : Nat) (k : Int) (w : World) :
 Calls Tryz.prog 37 #[.slice ad 0 cap, .int .i64 k] w fun e w' => e = .returned (.int .i64 k) ∧ w' = w := by
 go_enter Tryz.func37, Tryz.ntmps37
 go_wp2
 go_loopw [1, 5] (fun kk i wr => i = .int .i64 (0 : Nat) ∧ kk = .int .i64 k ∧ wr = w) (fun _ _ _ => 0)
 case atStart => exact ⟨rfl, rfl, rfl⟩
 case round =>
  obtain ⟨rfl, rfl, rfl⟩ := hrel
  go_wp2
  go_ret
  exact ⟨rfl, rfl⟩
theorem markByteS_any {base n : Nat} {v : Value} (k : Int) {xs : List Value} {w : World} (hn : n ≤ 2097152) (hk0 : 0 ≤ k) (hk1 : k ≤ 1000000000)
 (hown : w.ownsRow base 5 1 v n xs) :
 Calls Tryz.prog 37 #[v, .int .i64 k] w fun e w' =>
  e = .returned (.int .i64 (k + n)) ∧ w'.ownsRow base 5 1 v n (bys (marks k n)) ∧ w.grownBy w' v.ownBlock := by
 rcases hown.2 with ⟨rfl, rfl⟩ | ⟨g, cap, cur, rfl, _⟩
 · refine (markByteS_zero none 0 k w).mono fun e w' ⟨he, hw⟩ => ?_
   subst hw
   exact ⟨by rw [he]; simp, by simpa [marks, bys] using World.ownsRow_nil w' base 5 1, grown_refl _ _⟩
 · exact markByteS_pos base g n cap k xs w hn hk0 hk1 hown
set_option maxHeartbeats 800000 in
theorem heldByteS_pos (b off cap n : Nat) (k : Int) (w : World) (hn : n ≤ 2097152) (hk0 : 0 ≤ k) (hk1 : k ≤ 1000000000)
 (hc : ∀ i, i < n → w.cell? ⟨b, off + i, none⟩ = some (.int .u8 ((k + (i : Nat)) % 256))) :
 Calls Tryz.prog 93 #[.slice (some ⟨b, off, none⟩) n cap, .int .i64 k] w fun e w' => e = .returned (.int .i64 (k + n)) ∧ w' = w := by
 go_enter Tryz.func93, Tryz.ntmps93
 go_wp2
 go_loopw [1, 5] (fun kk i wr => ∃ j : Nat, j ≤ n ∧ i = .int .i64 j ∧ kk = .int .i64 (k + j) ∧ wr = w) (fun _ i _ => n - (intOf i).toNat)
 case atStart => exact ⟨0, Nat.zero_le _, rfl, by simp, rfl⟩
 case round =>
  obtain ⟨j, hj, rfl, rfl, rfl⟩ := hrel
  by_cases hlt : j < n
  · have h1 := hc j hlt
    go_wp2
    go_roundw
    case rel => exact ⟨j + 1, by omega, by go_num, by go_num, by first | trivial | rfl⟩
    case measure => simp [intOf]; omega
  · go_wp2
    go_ret
    obtain rfl : j = n := by omega
    exact ⟨rfl, rfl⟩
set_option maxHeartbeats 800000 in
theorem heldByteS_zero (ad : Option Addr) (cap : Nat) (k : Int) (w : World) :
 Calls Tryz.prog 93 #[.slice ad 0 cap, .int .i64 k] w fun e w' => e = .returned (.int .i64 k) ∧ w' = w := by
 go_enter Tryz.func93, Tryz.ntmps93
 go_wp2
 go_loopw [1, 5] (fun kk i wr => i = .int .i64 (0 : Nat) ∧ kk = .int .i64 k ∧ wr = w) (fun _ _ _ => 0)
 case atStart => exact ⟨rfl, rfl, rfl⟩
 case round =>
  obtain ⟨rfl, rfl, rfl⟩ := hrel
  go_wp2
  go_ret
  exact ⟨rfl, rfl⟩
theorem heldByteS_any {ad : Option Addr} {n : Nat} (cap : Nat) (k : Int) {w : World} (h : Reads w ad n (marks k n)) (hn : n ≤ 2097152) (hk0 : 0 ≤ k) (hk1 : k ≤ 1000000000) :
 Calls Tryz.prog 93 #[.slice ad n cap, .int .i64 k] w fun e w' => e = .returned (.int .i64 (k + n)) ∧ w' = w := by
 rcases h.cells with rfl | ⟨b, off, rfl, hc⟩
 · refine (heldByteS_zero ad cap k w).mono fun e w' ⟨he, hw⟩ => ⟨by rw [he]; simp, hw⟩
 · exact heldByteS_pos b off cap n k w hn hk0 hk1 fun i hi => by rw [hc i hi, marks_at k n i hi]
end Go.Proofs.YtlkoghdajpbffaaGreat
