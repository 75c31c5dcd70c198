/- Texts of this proof in one: Base Xa18 Help Dk Al Xb18 Xc18 Xd18 Sb Rk Rk2 Rk3 Xe18 Flo Flx Flv Fli Flw Flb Flq Flf Fsa Fll It1. -/
import Derived.WalkKit
import Derived.WalkSpells
import Derived.Laws.CopyOwn
import Derived.Deep.Draws
import Derived.OpenShut
import Derived.Test.YtoppccfgcccijaaDoorRows
import Derived.Deep.QuietTactic
import Derived.BigQuiet
import Derived.Laws.Tables
import Derived.Lib.SlBytesConst
import Derived.ArgAppend
import Derived.Deep.AppendLies
import Derived.Laws.BytesArg
import Derived.Laws.Cover1
import Derived.Deep.RegionHeld3
import Derived.Deep.DeepCutAuto
import Derived.Laws.FloatArith
import Derived.Test.YtoppccfgcccijaaDoorChecked
import Derived.WalkLawsBesides
import Derived.Laws.BitsAllLaws
import Derived.Laws.Externs
import Derived.KernelRfl
/- Plain notions for the proofs of this seat: what a slice of bytes reads as, in a world; how that is kept. No statement of its own; no conditions. -/





namespace Go.Proofs.YtoppccfgcccijaaDoor
open Go.RowKit

/-- The byte cells of a list of numbers. -/
def bys (zs : List Int) : List Value := zs.map (Value.int .u8)
theorem bys_length (zs : List Int) : (bys zs).length = zs.length := by simp [bys]

/-- A slice of n bytes at 'ad' reads, in the world w, as the numbers zs. -/
structure Reads (w : World) (ad : Option Addr) (n : Nat) (zs : List Int) : Prop where
  len : zs.length = n
  cells : n = 0 ∨ ∃ b off, ad = some ⟨b, off, none⟩ ∧ ∀ i, i < n → w.cell? ⟨b, off + i, none⟩ = some (.int .u8 (zs.getD i 0))
  bd : ∀ i, 0 ≤ zs.getD i 0 ∧ zs.getD i 0 ≤ 255

theorem Reads.below {w w' : World} {ad : Option Addr} {n : Nat} {zs : List Int} (h : Reads w ad n zs) {B : Nat} (hb : Below B w w') (hB : w.heap.size ≤ B) : Reads w' ad n zs := by
  refine ⟨h.len, ?_, h.bd⟩
  rcases h.cells with h0 | ⟨b, off, rfl, hc⟩
  · exact .inl h0
  · refine .inr ⟨b, off, rfl, fun i hi => ?_⟩
    have hc' := hc i hi
    have := World.block_lt_of_cell? w _ hc'
    rw [hb.cell (p := ⟨b, off + i, none⟩) (by simp at this ⊢; omega)]
    exact hc'

/-- A row of the call's own, read. -/
theorem Reads.own {w : World} {base : Nat} {v : Value} {n : Nat} {zs : List Int} (h : w.ownsRow base 5 1 v n (bys zs)) (hbd : ∀ i, 0 ≤ zs.getD i 0 ∧ zs.getD i 0 ≤ 255) :
    ∃ ad cap, v = .slice ad n cap ∧ Reads w ad n zs ∧ (ad = none ∨ ∃ g, ad = some ⟨g, 0, none⟩ ∧ base ≤ g ∧ g < w.heap.size) := by
  have hl : zs.length = n := by have := h.1; simpa [bys] using this
  rcases h.2 with ⟨rfl, rfl⟩ | ⟨g, cap, cur, rfl, hb, hg, hnc, hcm, hcs, htake⟩
  · exact ⟨none, 0, rfl, ⟨hl, .inl rfl, hbd⟩, .inl rfl⟩
  · refine ⟨_, cap, rfl, ⟨hl, .inr ⟨g, 0, rfl, fun i hi => ?_⟩, hbd⟩, .inr ⟨g, rfl, hb, (Array.getElem?_eq_some_iff.1 hg).1⟩⟩
    rw [Nat.zero_add, h.cellAt i (by omega)]
    simp [bys, hl, hi]

/-- A fact kept from the walk. -/
theorem hid {p : Prop} (h : p) : Hid p := h

/-- Nothing in memory has turned (draws alone). -/
structure Still (w w' : World) : Prop where
  os : w'.os = w.os
  tape : w'.tape = w.tape
  output : w'.output = w.output
  heap : w'.heap = w.heap
theorem Still.refl (w : World) : Still w w := ⟨rfl, rfl, rfl, rfl⟩
theorem Still.trans {a b c : World} (h : Still a b) (k : Still b c) : Still a c := ⟨k.os.trans h.os, k.tape.trans h.tape, k.output.trans h.output, k.heap.trans h.heap⟩
theorem Still.drewN (w : World) (n : Nat) : Still w (w.drewN n) := ⟨rfl, rfl, rfl, rfl⟩
theorem Still.drew (w : World) : Still w w.drew := ⟨rfl, rfl, rfl, rfl⟩
theorem Still.below {w w' : World} (h : Still w w') (B : Nat) : Below B w w' := ⟨h.os, h.tape, h.output, by rw [h.heap]; exact Nat.le_refl _, fun k _ => by rw [h.heap]⟩
theorem Still.size {w w' : World} (h : Still w w') : w'.heap.size = w.heap.size := by rw [h.heap]
theorem Still.cell {w w' : World} (h : Still w w') (a : Addr) : w'.cell? a = w.cell? a := by simp [World.cell?, h.heap]
theorem Still.frozen {w w' : World} (h : Still w w') (a : Addr) : w'.frozen? a = w.frozen? a := by simp [World.frozen?, h.heap]
theorem Still.reads {w w' : World} (h : Still w w') {ad : Option Addr} {n : Nat} {zs : List Int} (hr : Reads w ad n zs) : Reads w' ad n zs := hr.below (h.below w.heap.size) (Nat.le_refl _)
theorem Still.owns {w w' : World} (h : Still w w') {base : Nat} {e : TypeId} {s : Nat} {v : Value} {n : Nat} {xs : List Value} (ho : w.ownsRow base e s v n xs) : w'.ownsRow base e s v n xs := by
  unfold World.ownsRow at ho ⊢; rw [h.heap]; exact ho

theorem owns_below {w w' : World} {B : Nat} (hb : Below B w w') (hB : w.heap.size ≤ B) {base : Nat} {e : TypeId} {s : Nat} {v : Value} {n : Nat} {xs : List Value} (ho : w.ownsRow base e s v n xs) : w'.ownsRow base e s v n xs := by
  refine ⟨ho.1, ?_⟩
  rcases ho.2 with hn | ⟨g, cap, cur, rfl, hbg, hg, rest⟩
  · exact .inl hn
  · exact .inr ⟨g, cap, cur, rfl, hbg, by rw [hb.block g (by have := (Array.getElem?_eq_some_iff.1 hg).1; omega)]; exact hg, rest⟩

/-- Reading is kept while another row is written. -/
theorem Reads.other {w w' : World} {ad : Option Addr} {n : Nat} {zs : List Int} (h : Reads w ad n zs) {row : Option Nat} (hg : w.grownBy w' row) (hne : ∀ a, ad = some a → some a.block ≠ row) : Reads w' ad n zs := by
  refine ⟨h.len, ?_, h.bd⟩
  rcases h.cells with h0 | ⟨b, off, rfl, hc⟩
  · exact .inl h0
  · exact .inr ⟨b, off, rfl, fun i hi => hg.cell (hc i hi) (hne ⟨b, off, none⟩ rfl)⟩

/-- What markByteS writes: k, k + 1 .., as bytes. -/
def marks (k : Int) (n : Nat) : List Int := (List.range n).map fun i => (k + (i : Nat)) % 256
theorem marks_length (k : Int) (n : Nat) : (marks k n).length = n := by simp [marks]
theorem marks_succ (k : Int) (n : Nat) : marks k (n + 1) = marks k n ++ [(k + (n : Nat)) % 256] := by simp [marks, List.range_succ]
theorem marks_at (k : Int) (n i : Nat) (h : i < n) : (marks k n).getD i 0 = (k + (i : Nat)) % 256 := by simp [marks, h]
theorem marks_bd (k : Int) (n i : Nat) : 0 ≤ (marks k n).getD i 0 ∧ (marks k n).getD i 0 ≤ 255 := by
  by_cases h : i < n
  · rw [marks_at k n i h]; omega
  · simp [marks, h]
theorem set_mid (A : List Value) (X : List Value) (j : Nat) (c : Value) (hA : A.length = j) (hX : j < X.length) : (A ++ X.drop j).set j c = (A ++ [c]) ++ X.drop (j + 1) := by
  rw [List.set_append_right _ _ (by omega), hA, Nat.sub_self, List.drop_eq_getElem_cons hX, List.set_cons_zero]; simp

theorem grown_trans {a b c : World} {row : Option Nat} (h : a.grownBy b row) (k : b.grownBy c row) : a.grownBy c row :=
  ⟨k.os.trans h.os, k.tape.trans h.tape, k.output.trans h.output, Nat.le_trans h.size k.size, fun i hi hr => (k.block i (Nat.lt_of_lt_of_le hi h.size) hr).trans (h.block i hi hr)⟩
theorem grown_refl (w : World) (row : Option Nat) : w.grownBy w row := ⟨rfl, rfl, rfl, Nat.le_refl _, fun _ _ _ => rfl⟩
theorem bys_append (a b : List Int) : bys (a ++ b) = bys a ++ bys b := by simp [bys]

/-- Two rows, the second made behind the first. -/
theorem apart_of {ad ad' : Option Addr} {B lo hi n cap : Nat} (h : ad = none ∨ ∃ g, ad = some ⟨g, 0, none⟩ ∧ lo ≤ g ∧ g < B) (h' : ad' = none ∨ ∃ g, ad' = some ⟨g, 0, none⟩ ∧ B ≤ g ∧ g < hi) :
    ∀ a, ad = some a → some a.block ≠ (Value.slice ad' n cap).ownBlock := by
  intro a ha
  rcases h' with rfl | ⟨g', rfl, h1, h2⟩
  · simp [Value.ownBlock]
  · rcases h with rfl | ⟨g, rfl, h3, h4⟩
    · cases ha
    · cases ha; simp [Value.ownBlock]; omega
theorem own_ge {ad : Option Addr} {B hi n cap : Nat} (h : ad = none ∨ ∃ g, ad = some ⟨g, 0, none⟩ ∧ B ≤ g ∧ g < hi) : ∀ k, (Value.slice ad n cap).ownBlock = some k → B ≤ k := by
  intro k hk
  rcases h with rfl | ⟨g, rfl, h1, h2⟩
  · simp [Value.ownBlock] at hk
  · simp [Value.ownBlock] at hk; omega

/-- A slice of bytes that came in, as the row's step tells it, read. -/
theorem reads_in {w : World} {a : Option Addr} {len cap : Nat} {zs : List Int}
    (h : (a = none ∧ len = 0 ∧ cap = 0 ∧ zs = []) ∨ ∃ x, a = some x ∧ len ≤ cap ∧ cap ≤ maxLen ∧ zs.length = cap ∧ (∀ i, i < zs.length → w.cell? (x.add i) = some (.int .u8 (zs.getD i 0))) ∧ ∀ n ∈ zs, (Lit.int .u8 n).wf = true) :
    Reads w a len (zs.take len) := by
  rcases h with ⟨rfl, rfl, rfl, rfl⟩ | ⟨x, rfl, hlc, hm, hz, hc, hwf⟩
  · exact ⟨rfl, .inl rfl, by simp⟩
  · refine ⟨by simp; omega, ?_, ?_⟩
    · by_cases h0 : len = 0
      · exact .inl h0
      · obtain ⟨b, off, rfl, hc'⟩ := ints_at hc (by omega)
        refine .inr ⟨b, off, rfl, fun i hi => ?_⟩
        rw [hc' i (by omega)]
        simp [hi]
    · intro i
      by_cases hi : i < (zs.take len).length
      · rw [List.getD_eq_getElem?_getD, List.getElem?_eq_getElem hi]
        exact bounds_u8 (hwf _ (List.mem_of_mem_take (List.getElem_mem hi)))
      · rw [List.getD_eq_getElem?_getD, List.getElem?_eq_none (by omega)]; simp

theorem len_in {w : World} {a : Option Addr} {len cap : Nat} {zs : List Int} {k : IntKind}
    (h : (a = none ∧ len = 0 ∧ cap = 0 ∧ zs = []) ∨ ∃ x, a = some x ∧ len ≤ cap ∧ cap ≤ maxLen ∧ zs.length = cap ∧ (∀ i, i < zs.length → w.cell? (x.add i) = some (.int k (zs.getD i 0))) ∧ ∀ n ∈ zs, (Lit.int k n).wf = true) :
    len ≤ maxLen := by
  rcases h with ⟨_, rfl, _⟩ | ⟨_, _, h1, h2, _⟩
  · exact Nat.zero_le _
  · exact Nat.le_trans h1 h2

/-- The cells that an append or a copy takes over. -/
theorem Reads.news {w : World} {a : Addr} {n : Nat} {zs : List Int} (h : Reads w (some a) n zs) : ∀ j u, (bys zs)[j]? = some u → w.cell? (a.add j) = some u := by
  intro j u hu
  have hj : j < zs.length := by
    have := (List.getElem?_eq_some_iff.1 hu).1
    simpa [bys] using this
  rcases h.cells with h0 | ⟨b, off, hb, hc⟩
  · have := h.len; omega
  · cases hb
    have e : (⟨b, off, none⟩ : Addr).add j = ⟨b, off + j, none⟩ := by unfold Addr.add; split <;> simp_all
    rw [e, hc j (by have := h.len; omega)]
    simpa [bys, hj] using hu
theorem bys_one (zs : List Int) : ∀ u ∈ bys zs, u.oneCell' = true := by
  intro u hu
  simp only [bys, List.mem_map] at hu
  obtain ⟨x, _, rfl⟩ := hu
  rfl
theorem Reads.pos {w : World} {ad : Option Addr} {n : Nat} {zs : List Int} (h : Reads w ad n zs) (hn : 0 < n) : ∃ b off, ad = some ⟨b, off, none⟩ := by
  rcases h.cells with h0 | ⟨b, off, hb, _⟩
  · omega
  · exact ⟨b, off, hb⟩

theorem getD_bys (zs : List Int) (i : Nat) : (bys zs)[i]? = (zs[i]?).map (Value.int .u8) := by simp [bys]
end Go.Proofs.YtoppccfgcccijaaDoor
/- Chapter 18, plain: decimal digits, hexadecimal digits. No program, no conditions. -/

namespace Go.Proofs.YtoppccfgcccijaaDoor
open Go.RowKit
set_option maxRecDepth 100000

/-- Decimal digits, the lowest first. -/
def lowD : Nat → Nat → List Int
  | 0, n => [48 + (n : Int)]
  | f + 1, n => if 9 < n then (48 + (n : Int) % 10) :: lowD f (n / 10) else [48 + (n : Int)]
def decN (n : Nat) : List Int := (lowD 20 n).reverse
def decI (n : Int) : List Int := if n < 0 then 45 :: decN (-n).toNat else decN n.toNat
theorem lowD_big {f n : Nat} (h : 9 < n) : lowD (f + 1) n = (48 + (n : Int) % 10) :: lowD f (n / 10) := by rw [lowD, if_pos h]
theorem lowD_one {f n : Nat} (h : ¬ 9 < n) : lowD f n = [48 + (n : Int)] := by
  cases f with
  | zero => rfl
  | succ f => rw [lowD, if_neg h]
theorem lowD_bd : ∀ (f n : Nat), n < 10 ^ (f + 1) → ∀ z ∈ lowD f n, 48 ≤ z ∧ z ≤ 57
  | 0, n, h, z, hz => by
    rw [lowD] at hz
    obtain rfl := List.mem_singleton.1 hz
    simp at h
    omega
  | f + 1, n, h, z, hz => by
    by_cases hn : 9 < n
    · rw [lowD_big hn] at hz
      rcases List.mem_cons.1 hz with rfl | hz
      · omega
      · exact lowD_bd f (n / 10) (by rw [Nat.pow_succ] at h; omega) z hz
    · rw [lowD_one hn] at hz
      obtain rfl := List.mem_singleton.1 hz
      omega
theorem lowD_len : ∀ (f n : Nat), 1 ≤ (lowD f n).length ∧ (lowD f n).length ≤ f + 1
  | 0, n => by simp [lowD]
  | f + 1, n => by
    have := lowD_len f (n / 10)
    by_cases hn : 9 < n
    · rw [lowD_big hn, List.length_cons]; omega
    · rw [lowD_one hn]; simp
theorem decN_len (n : Nat) : 1 ≤ (decN n).length ∧ (decN n).length ≤ 21 := by unfold decN; rw [List.length_reverse]; exact lowD_len 20 n
theorem decN_bd {n : Nat} (h : n ≤ 9223372036854775808) : ∀ z ∈ decN n, 48 ≤ z ∧ z ≤ 57 := fun z hz => lowD_bd 20 n (by omega) z (List.mem_reverse.1 hz)
theorem decI_len (n : Int) : 1 ≤ (decI n).length ∧ (decI n).length ≤ 23 := by
  unfold decI
  split
  · rw [List.length_cons]; have := decN_len (-n).toNat; omega
  · have := decN_len n.toNat; omega
theorem decI_bd {n : Int} (h : -9223372036854775808 ≤ n ∧ n ≤ 9223372036854775807) : ∀ z ∈ decI n, z = 45 ∨ (48 ≤ z ∧ z ≤ 57) := by
  unfold decI
  intro z hz
  split at hz
  · rcases List.mem_cons.1 hz with rfl | hz
    · exact .inl rfl
    · exact .inr (decN_bd (by omega) z hz)
  · exact .inr (decN_bd (by omega) z hz)
theorem decI_min : decI (-9223372036854775808) = [45, 57, 50, 50, 51, 51, 55, 50, 48, 51, 54, 56, 53, 52, 55, 55, 53, 56, 48, 56] := by decide +kernel
/-- Hexadecimal digits. -/
def hexD (d : Int) : Int := if d < 10 then 48 + d else 87 + d
def hexB (zs : List Int) : List Int := zs.flatMap (fun z => [hexD (z / 16), hexD (z % 16)])
theorem hexB_cons (z : Int) (zs : List Int) : hexB (z :: zs) = hexD (z / 16) :: hexD (z % 16) :: hexB zs := rfl
theorem hexB_app (a b : List Int) : hexB (a ++ b) = hexB a ++ hexB b := by unfold hexB; rw [List.flatMap_append]
theorem hexB_len : ∀ (zs : List Int), (hexB zs).length = 2 * zs.length
  | [] => rfl
  | z :: zs => by rw [hexB_cons, List.length_cons, List.length_cons, List.length_cons, hexB_len zs]; omega
theorem hexD_bd {d : Int} (h : 0 ≤ d ∧ d ≤ 15) : (48 ≤ hexD d ∧ hexD d ≤ 57) ∨ (97 ≤ hexD d ∧ hexD d ≤ 102) := by
  unfold hexD
  split <;> omega
theorem hexB_bd : ∀ (zs : List Int), (∀ z ∈ zs, 0 ≤ z ∧ z ≤ 255) → ∀ u ∈ hexB zs, (48 ≤ u ∧ u ≤ 57) ∨ (97 ≤ u ∧ u ≤ 102)
  | [], _, u, hu => by cases hu
  | z :: zs, h, u, hu => by
    have hz := h z (List.mem_cons_self ..)
    rw [hexB_cons] at hu
    rcases List.mem_cons.1 hu with rfl | hu
    · exact hexD_bd (by omega)
    · rcases List.mem_cons.1 hu with rfl | hu
      · exact hexD_bd (by omega)
      · exact hexB_bd zs (fun x hx => h x (List.mem_cons_of_mem _ hx)) u hu
/-- What a hexadecimal digit says; none: it is no digit. -/
def unD (c : Int) : Option Int := if 48 ≤ c ∧ c ≤ 57 then some (c - 48) else if 97 ≤ c ∧ c ≤ 102 then some (c - 87) else none
theorem unD_hexD {d : Int} (h : 0 ≤ d ∧ d ≤ 15) : unD (hexD d) = some d := by
  unfold unD hexD
  split
  · rw [if_pos (by omega)]; congr 1; omega
  · rw [if_neg (by omega), if_pos (by omega)]; congr 1; omega
/-- Bytes out of pairs of hexadecimal digits. -/
def unB : List Int → Option (List Int)
  | [] => some []
  | [_] => none
  | a :: b :: zs => match unD a, unD b, unB zs with
    | some x, some y, some r => some ((x * 16 + y) :: r)
    | _, _, _ => none
theorem unB_hexB : ∀ (zs : List Int), (∀ z ∈ zs, 0 ≤ z ∧ z ≤ 255) → unB (hexB zs) = some zs
  | [], _ => rfl
  | z :: zs, h => by
    have hz := h z (List.mem_cons_self ..)
    rw [hexB_cons, unB, unD_hexD (by omega), unD_hexD (by omega), unB_hexB zs (fun x hx => h x (List.mem_cons_of_mem _ hx))]
    simp only
    rw [show z / 16 * 16 + z % 16 = z by omega]
theorem hexB_inj {a b : List Int} (ha : ∀ z ∈ a, 0 ≤ z ∧ z ≤ 255) (hb : ∀ z ∈ b, 0 ≤ z ∧ z ≤ 255) (h : hexB a = hexB b) : a = b := by
  have := unB_hexB a ha
  rw [h, unB_hexB b hb] at this
  exact (Option.some.inj this).symm
/-- Digits tell their number. -/
def valL : List Int → Int
  | [] => 0
  | z :: zs => (z - 48) + 10 * valL zs
theorem valL_low : ∀ (f n : Nat), valL (lowD f n) = n
  | 0, n => by simp [lowD, valL]; omega
  | f + 1, n => by
    by_cases hn : 9 < n
    · rw [lowD_big hn, valL, valL_low f (n / 10)]; omega
    · rw [lowD_one hn]; simp [valL]; omega
theorem decN_inj {a b : Nat} (h : decN a = decN b) : a = b := by
  unfold decN at h
  have h2 := List.reverse_inj.1 h
  have := congrArg valL h2
  rw [valL_low, valL_low] at this
  omega
theorem decI_inj {a b : Int} (ha : -9223372036854775808 ≤ a ∧ a ≤ 9223372036854775807) (hb : -9223372036854775808 ≤ b ∧ b ≤ 9223372036854775807) (h : decI a = decI b) : a = b := by
  have hd : ∀ n : Nat, n ≤ 9223372036854775808 → ∀ l, decN n ≠ 45 :: l := fun n hn l e => by
    have := decN_bd hn 45 (by rw [e]; exact List.mem_cons_self ..)
    omega
  unfold decI at h
  split at h
  · split at h
    · have := decN_inj (List.cons.inj h).2; omega
    · exact absurd h.symm (hd _ (by omega) _)
  · split at h
    · exact absurd h (hd _ (by omega) _)
    · have := decN_inj h; omega
end Go.Proofs.YtoppccfgcccijaaDoor
/- The contracts of the law package's helpers: toByteS, eqByteS, markByteS, heldByteS. Conditions: lengths of at most 2^21 where memory is made or counted. -/




namespace Go.Proofs.YtoppccfgcccijaaDoor
open Go.RowKit
set_option maxRecDepth 100000

theorem Tryd.info5 : (Tryd.prog.info? 5).map (fun i => (i.zero, i.size, i.bytes)) = some (some (.int .u8 0), 1, 1) := by kernel_rfl

theorem set_take_step (zs : List Int) (k : Nat) (hk : k < zs.length) (m : Nat) (hm : m = zs.length) :
    (bys (zs.take k) ++ List.replicate (m - k) (Value.int .u8 0)).set k (.int .u8 (zs.getD k 0)) = bys (zs.take (k + 1)) ++ List.replicate (m - (k + 1)) (Value.int .u8 0) := by
  subst hm
  apply List.ext_getElem?
  intro j
  simp only [bys, List.getElem?_set, List.getElem?_append, List.getElem?_map, List.getElem?_replicate, List.length_map, List.length_take, List.length_append, List.length_replicate, List.getElem?_take]
  by_cases h1 : k = j
  · subst h1
    simp [hk, show min (k + 1) zs.length = k + 1 by omega, show min k zs.length = k by omega, show zs.length - k ≠ 0 by omega]
  · by_cases h2 : j < k
    · simp [h1, show j < min k zs.length by omega, show j < min (k+1) zs.length by omega, show j < k + 1 by omega, h2]
    · by_cases h3 : j < zs.length
      · simp [h1, show ¬ j < min k zs.length by omega, show ¬ j < min (k+1) zs.length by omega, show j - min k zs.length < zs.length - k by omega, show j - min (k+1) zs.length < zs.length - (k+1) by omega]
      · simp [h1, show ¬ j < min k zs.length by omega, show ¬ j < min (k+1) zs.length by omega, show ¬ j - min k zs.length < zs.length - k by omega, show ¬ j - min (k+1) zs.length < zs.length - (k+1) by omega]

set_option maxHeartbeats 800000 in
theorem toByteS_pos (b off n cap : Nat) (zs : List Int) (w : World) (hz : zs.length = n) (hn : n ≤ 2097152) (hb : b < w.heap.size)
    (hc : ∀ i, i < n → w.cell? ⟨b, off + i, none⟩ = some (.int .u8 (zs.getD i 0))) :
    Calls Tryd.prog 16 #[.slice (some ⟨b, off, none⟩) n cap] w fun e w' =>
      e = .returned (.slice (some ⟨w.heap.size, 0, none⟩) n n) ∧ w'.ownsRow w.heap.size 5 1 (.slice (some ⟨w.heap.size, 0, none⟩) n n) n (bys zs) ∧ Below w.heap.size w w' := by
  obtain ⟨i0, hi, hz0, hz1, hz2⟩ := info_parts Tryd.info5
  go_enter Tryd.func16, Tryd.ntmps16
  go_wp2_with (at_make; refine wpList_make_full _ rfl _ _ 23 rfl w.heap.size 5 i0 (.int .u8 0) 1 Tryd.underlying23 hi hz0 hz1 _ _ _ _ n rfl rfl (by omega) (by omega) ?b2 ?b3 (Nat.le_refl _) ?_)
  case b2 => rw [hz2]; omega
  case b3 => unfold maxLen; omega
  intro w0 hown0 hgrow0
  go_wp2
  go_loopw [4] (fun i wr => ∃ k : Nat, k ≤ n ∧ i = .int .i64 k ∧ wr.ownsRow w.heap.size 5 1 (.slice (some ⟨w.heap.size, 0, none⟩) n n) n (bys (zs.take k) ++ List.replicate (n - k) (Value.int .u8 0)) ∧ Below w.heap.size w wr)
    (fun i _ => n - (intOf i).toNat)
  case atStart =>
    refine ⟨0, Nat.zero_le _, rfl, ?_, (Below.refl _ _).grown hgrow0 (Nat.le_refl _) (fun k h => by cases h)⟩
    rw [toList_madeCells_one] at hown0
    simpa [bys] using hown0
  case round =>
    obtain ⟨k, hk, rfl, hown, hnx⟩ := hrel
    by_cases hlt : k < n
    · have hcx : wr.cell? ⟨b, off + k, none⟩ = some (.int .u8 (zs.getD k 0)) := (hnx.cell (by exact hb)).trans (hc k hlt)
      have hcy : wr.cell? ⟨w.heap.size, k, none⟩ = some (.int .u8 0) := by
        rw [hown.cellAt k (by omega), List.getElem?_append_right (by simp [bys]; omega)]
        simp [bys, hz, Nat.min_eq_left hk, show 0 < n - k by omega]
      have hfr : wr.frozen? ⟨w.heap.size, k, none⟩ = false := hown.frozenAt k
      have R := hown.stored k (.int .u8 (zs.getD k 0))
      rw [set_take_step zs k (by omega) n hz.symm] at R
      have R1 := hid R
      clear R hown
      generalize zs.getD k 0 = c at hcx R1
      go_wp2
      go_roundw
      case rel => exact ⟨k + 1, by omega, by go_num, by simpa using R1.out.1, hnx.setCell (Nat.le_refl _) _⟩
      case measure => simp [intOf]; omega
    · go_wp2
      go_ret
      have hkn : k = n := by omega
      subst hkn
      refine ⟨rfl, ?_, hnx⟩
      rw [List.take_of_length_le (by omega)] at hown
      simpa using hown

set_option maxHeartbeats 800000 in
theorem toByteS_zero (ad : Option Addr) (cap : Nat) (w : World) :
    Calls Tryd.prog 16 #[.slice ad 0 cap] w fun e w' =>
      e = .returned (.slice (some ⟨w.heap.size, 0, none⟩) 0 0) ∧ w'.ownsRow w.heap.size 5 1 (.slice (some ⟨w.heap.size, 0, none⟩) 0 0) 0 (bys []) ∧ Below w.heap.size w w' := by
  obtain ⟨i0, hi, hz0, hz1, hz2⟩ := info_parts Tryd.info5
  go_enter Tryd.func16, Tryd.ntmps16
  go_wp2_with (at_make; refine wpList_make_full _ rfl _ _ 23 rfl w.heap.size 5 i0 (.int .u8 0) 1 Tryd.underlying23 hi hz0 hz1 _ _ _ _ 0 rfl rfl (by omega) (by omega) ?b2 ?b3 (Nat.le_refl _) ?_)
  case b2 => rw [hz2]; omega
  case b3 => unfold maxLen; omega
  intro w0 hown0 hgrow0
  have H0 := hid hown0
  clear hown0
  go_wp2
  go_loopw [4] (fun i wr => i = .int .i64 (0 : Nat) ∧ wr = w0) (fun i _ => 0)
  case atStart => exact ⟨rfl, rfl⟩
  case round =>
    obtain ⟨rfl, rfl⟩ := hrel
    go_wp2
    go_ret
    refine ⟨rfl, ?_, (Below.refl _ _).grown hgrow0 (Nat.le_refl _) (fun k h => by cases h)⟩
    have h := H0.out
    simpa [bys, madeCells] using h

theorem toByteS_any {ad : Option Addr} {n : Nat} (cap : Nat) {zs : List Int} {w : World} (h : Reads w ad n zs) (hn : n ≤ 2097152) :
    Calls Tryd.prog 16 #[.slice ad n cap] w fun e w' =>
      e = .returned (.slice (some ⟨w.heap.size, 0, none⟩) n n) ∧ w'.ownsRow w.heap.size 5 1 (.slice (some ⟨w.heap.size, 0, none⟩) n n) n (bys zs) ∧ Below w.heap.size w w' := by
  obtain ⟨hl, hc, _⟩ := h
  by_cases h0 : n = 0
  · subst h0
    obtain rfl : zs = [] := List.eq_nil_of_length_eq_zero hl
    exact toByteS_zero ad cap w
  · rcases hc with h | ⟨b, off, rfl, hc⟩
    · exact absurd h h0
    · exact toByteS_pos b off n cap zs w hl hn (by have := World.block_lt_of_cell? w _ (hc 0 (by omega)); exact this) hc

set_option maxHeartbeats 800000 in
/-- Two slices that read alike are told alike. -/
theorem eqByteS_pos (b off cap b' off' cap' n : Nat) (zs : List Int) (w : World) (hn : n ≤ 2097152)
    (hc : ∀ i, i < n → w.cell? ⟨b, off + i, none⟩ = some (.int .u8 (zs.getD i 0))) (hc' : ∀ i, i < n → w.cell? ⟨b', off' + i, none⟩ = some (.int .u8 (zs.getD i 0))) :
    Calls Tryd.prog 10 #[.slice (some ⟨b, off, none⟩) n cap, .slice (some ⟨b', off', none⟩) n cap'] w fun e w' => e = .returned (.bool true) ∧ Still w w' := by
  go_enter Tryd.func10, Tryd.ntmps10
  go_wp2
  go_loopw [5] (fun i wr => ∃ k m : Nat, k ≤ n ∧ i = .int .i64 k ∧ wr = w.drewN m) (fun i _ => n - (intOf i).toNat)
  case atStart => exact ⟨0, 0, Nat.zero_le _, rfl, rfl⟩
  case round =>
    obtain ⟨k, m, hk, rfl, rfl⟩ := hrel
    by_cases hlt : k < n
    · have h1 := hc k hlt
      have h2 := hc' k hlt
      generalize zs.getD k 0 = c at h1 h2
      have hlt' : (k : Int) < (n : Int) := by omega
      go_wp2
      go_quiet (fail)
      go_wp2
      go_roundw
      case rel => exact ⟨k + 1, _, by omega, by go_num, rfl⟩
      case measure => simp [intOf]; omega
    · go_wp2
      go_ret
      exact ⟨rfl, Still.drewN _ _⟩

set_option maxHeartbeats 800000 in
theorem eqByteS_zero (ad ad' : Option Addr) (cap cap' : Nat) (w : World) :
    Calls Tryd.prog 10 #[.slice ad 0 cap, .slice ad' 0 cap'] w fun e w' => e = .returned (.bool true) ∧ Still w w' := by
  go_enter Tryd.func10, Tryd.ntmps10
  go_wp2
  go_loopw [5] (fun i wr => i = .int .i64 (0 : Nat) ∧ wr = w) (fun _ _ => 0)
  case atStart => exact ⟨rfl, rfl⟩
  case round =>
    obtain ⟨rfl, rfl⟩ := hrel
    go_wp2
    go_ret
    exact ⟨rfl, Still.refl _⟩

theorem eqByteS_any {ad ad' : Option Addr} {n : Nat} (cap cap' : Nat) {zs : List Int} {w : World} (h : Reads w ad n zs) (h' : Reads w ad' n zs) (hn : n ≤ 2097152) :
    Calls Tryd.prog 10 #[.slice ad n cap, .slice ad' n cap'] w fun e w' => e = .returned (.bool true) ∧ Still w w' := by
  obtain ⟨hl, hc, _⟩ := h
  obtain ⟨hl', hc', _⟩ := h'
  by_cases h0 : n = 0
  · subst h0; exact eqByteS_zero ad ad' cap cap' w
  · rcases hc with h | ⟨b, off, rfl, hc⟩
    · exact absurd h h0
    rcases hc' with h | ⟨b', off', rfl, hc'⟩
    · exact absurd h h0
    exact eqByteS_pos b off cap b' off' cap' n zs w hn hc hc'

set_option maxHeartbeats 800000 in
theorem markByteS_pos (base g n cap : Nat) (k : Int) (xs : List Value) (w : World) (hn : n ≤ 2097152) (hk0 : 0 ≤ k) (hk1 : k ≤ 1000000000)
    (hown : w.ownsRow base 5 1 (.slice (some ⟨g, 0, none⟩) n cap) n xs) :
    Calls Tryd.prog 13 #[.slice (some ⟨g, 0, none⟩) n cap, .int .i64 k] w fun e w' =>
      e = .returned (.int .i64 (k + n)) ∧ w'.ownsRow base 5 1 (.slice (some ⟨g, 0, none⟩) n cap) n (bys (marks k n)) ∧ w.grownBy w' (some g) := by
  have hxl : xs.length = n := by have := hown.1; omega
  go_enter Tryd.func13, Tryd.ntmps13
  go_wp2
  go_loopw [1, 5] (fun kk i wr => ∃ j : Nat, j ≤ n ∧ i = .int .i64 j ∧ kk = .int .i64 (k + j) ∧ wr.ownsRow base 5 1 (.slice (some ⟨g, 0, none⟩) n cap) n (bys (marks k j) ++ xs.drop j) ∧ w.grownBy wr (some g)) (fun _ i _ => n - (intOf i).toNat)
  case atStart => exact ⟨0, Nat.zero_le _, rfl, by simp, by simpa [marks, bys] using hown, ⟨rfl, rfl, rfl, Nat.le_refl _, fun _ _ _ => rfl⟩⟩
  case round =>
    obtain ⟨j, hj, rfl, rfl, hown', hg⟩ := hrel
    by_cases hlt : j < n
    · have hcy : ∃ v, wr.cell? ⟨g, j, none⟩ = some v := by
        rw [hown'.cellAt j (by omega)]
        exact ⟨_, List.getElem?_eq_getElem (by simp [bys, marks]; omega)⟩
      obtain ⟨v, hcy⟩ := hcy
      have hfr : wr.frozen? ⟨g, j, none⟩ = false := hown'.frozenAt j
      have R := hown'.stored j (.int .u8 ((k + j) % 256))
      rw [set_mid _ xs j _ (by simp [bys, marks]) (by omega)] at R
      have R1 := hid R
      clear R hown' hown
      go_wp2
      go_roundw
      case rel =>
        refine ⟨j + 1, by omega, by go_num, by go_num, ?_, grown_trans hg R1.out.2⟩
        rw [marks_succ, bys_append]
        exact R1.out.1
      case measure => simp [intOf]; omega
    · go_wp2
      go_ret
      obtain rfl : j = n := by omega
      rw [List.drop_eq_nil_of_le (by omega), List.append_nil] at hown'
      exact ⟨rfl, hown', hg⟩

set_option maxHeartbeats 800000 in
theorem markByteS_zero (ad : Option Addr) (cap : Nat) (k : Int) (w : World) :
    Calls Tryd.prog 13 #[.slice ad 0 cap, .int .i64 k] w fun e w' => e = .returned (.int .i64 k) ∧ w' = w := by
  go_enter Tryd.func13, Tryd.ntmps13
  go_wp2
  go_loopw [1, 5] (fun kk i wr => i = .int .i64 (0 : Nat) ∧ kk = .int .i64 k ∧ wr = w) (fun _ _ _ => 0)
  case atStart => exact ⟨rfl, rfl, rfl⟩
  case round =>
    obtain ⟨rfl, rfl, rfl⟩ := hrel
    go_wp2
    go_ret
    exact ⟨rfl, rfl⟩

theorem markByteS_any {base n : Nat} {v : Value} (k : Int) {xs : List Value} {w : World} (hn : n ≤ 2097152) (hk0 : 0 ≤ k) (hk1 : k ≤ 1000000000)
    (hown : w.ownsRow base 5 1 v n xs) :
    Calls Tryd.prog 13 #[v, .int .i64 k] w fun e w' =>
      e = .returned (.int .i64 (k + n)) ∧ w'.ownsRow base 5 1 v n (bys (marks k n)) ∧ w.grownBy w' v.ownBlock := by
  rcases hown.2 with ⟨rfl, rfl⟩ | ⟨g, cap, cur, rfl, _⟩
  · refine (markByteS_zero none 0 k w).mono fun e w' ⟨he, hw⟩ => ?_
    subst hw
    exact ⟨by rw [he]; simp, by simpa [marks, bys] using World.ownsRow_nil w' base 5 1, grown_refl _ _⟩
  · exact markByteS_pos base g n cap k xs w hn hk0 hk1 hown

set_option maxHeartbeats 800000 in
theorem heldByteS_pos (b off cap n : Nat) (k : Int) (w : World) (hn : n ≤ 2097152) (hk0 : 0 ≤ k) (hk1 : k ≤ 1000000000)
    (hc : ∀ i, i < n → w.cell? ⟨b, off + i, none⟩ = some (.int .u8 ((k + (i : Nat)) % 256))) :
    Calls Tryd.prog 14 #[.slice (some ⟨b, off, none⟩) n cap, .int .i64 k] w fun e w' => e = .returned (.int .i64 (k + n)) ∧ w' = w := by
  go_enter Tryd.func14, Tryd.ntmps14
  go_wp2
  go_loopw [1, 5] (fun kk i wr => ∃ j : Nat, j ≤ n ∧ i = .int .i64 j ∧ kk = .int .i64 (k + j) ∧ wr = w) (fun _ i _ => n - (intOf i).toNat)
  case atStart => exact ⟨0, Nat.zero_le _, rfl, by simp, rfl⟩
  case round =>
    obtain ⟨j, hj, rfl, rfl, rfl⟩ := hrel
    by_cases hlt : j < n
    · have h1 := hc j hlt
      go_wp2
      go_roundw
      case rel => exact ⟨j + 1, by omega, by go_num, by go_num, by first | trivial | rfl⟩
      case measure => simp [intOf]; omega
    · go_wp2
      go_ret
      obtain rfl : j = n := by omega
      exact ⟨rfl, rfl⟩

set_option maxHeartbeats 800000 in
theorem heldByteS_zero (ad : Option Addr) (cap : Nat) (k : Int) (w : World) :
    Calls Tryd.prog 14 #[.slice ad 0 cap, .int .i64 k] w fun e w' => e = .returned (.int .i64 k) ∧ w' = w := by
  go_enter Tryd.func14, Tryd.ntmps14
  go_wp2
  go_loopw [1, 5] (fun kk i wr => i = .int .i64 (0 : Nat) ∧ kk = .int .i64 k ∧ wr = w) (fun _ _ _ => 0)
  case atStart => exact ⟨rfl, rfl, rfl⟩
  case round =>
    obtain ⟨rfl, rfl, rfl⟩ := hrel
    go_wp2
    go_ret
    exact ⟨rfl, rfl⟩

theorem heldByteS_any {ad : Option Addr} {n : Nat} (cap : Nat) (k : Int) {w : World} (h : Reads w ad n (marks k n)) (hn : n ≤ 2097152) (hk0 : 0 ≤ k) (hk1 : k ≤ 1000000000) :
    Calls Tryd.prog 14 #[.slice ad n cap, .int .i64 k] w fun e w' => e = .returned (.int .i64 (k + n)) ∧ w' = w := by
  rcases h.cells with rfl | ⟨b, off, rfl, hc⟩
  · refine (heldByteS_zero ad cap k w).mono fun e w' ⟨he, hw⟩ => ⟨by rw [he]; simp, hw⟩
  · exact heldByteS_pos b off cap n k w hn hk0 hk1 fun i hi => by rw [hc i hi, marks_at k n i hi]
end Go.Proofs.YtoppccfgcccijaaDoor
/- Plain notions for disks in memory: rows of byte rows, each in a block of its own; what they keep. No statement of its own; no conditions. -/

namespace Go.Proofs.YtoppccfgcccijaaDoor
open Go.RowKit

/-- The blocks lo .. hi stand as they stood. -/
def Agree (lo hi : Nat) (w w' : World) : Prop := ∀ k, lo ≤ k → k < hi → w'.heap[k]? = w.heap[k]?
theorem Agree.refl (lo hi : Nat) (w : World) : Agree lo hi w w := fun _ _ _ => rfl
theorem Agree.below {B lo hi : Nat} {w w' : World} (h : Below B w w') (hh : hi ≤ B) : Agree lo hi w w' := fun k _ h2 => h.block k (by omega)
theorem Agree.trans {lo hi : Nat} {a b c : World} (h : Agree lo hi a b) (k : Agree lo hi b c) : Agree lo hi a c := fun i h1 h2 => (k i h1 h2).trans (h i h1 h2)

/-- Nothing but the blocks lo .. hi has turned. -/
structure Within (lo hi : Nat) (w w' : World) : Prop where
  os : w'.os = w.os
  tape : w'.tape = w.tape
  output : w'.output = w.output
  size : w.heap.size ≤ w'.heap.size
  block : ∀ k, k < w.heap.size → (k < lo ∨ hi ≤ k) → w'.heap[k]? = w.heap[k]?
theorem Within.refl (lo hi : Nat) (w : World) : Within lo hi w w := ⟨rfl, rfl, rfl, Nat.le_refl _, fun _ _ _ => rfl⟩
theorem Within.trans {lo hi : Nat} {a b c : World} (h : Within lo hi a b) (k : Within lo hi b c) : Within lo hi a c :=
  ⟨k.os.trans h.os, k.tape.trans h.tape, k.output.trans h.output, Nat.le_trans h.size k.size, fun i h1 h2 => (k.block i (Nat.lt_of_lt_of_le h1 h.size) h2).trans (h.block i h1 h2)⟩
theorem Within.below {lo hi : Nat} {w w' : World} (h : Within lo hi w w') (hl : lo ≤ w.heap.size) : Below lo w w' := ⟨h.os, h.tape, h.output, h.size, fun k hk => h.block k (by omega) (.inl hk)⟩
theorem Within.agree {lo hi a b : Nat} {w w' : World} (h : Within lo hi w w') (hb : b ≤ w.heap.size) (ho : b ≤ lo ∨ hi ≤ a) : Agree a b w w' := fun k h1 h2 => h.block k (by omega) (by omega)
theorem Within.of_below {B lo hi : Nat} {w w' : World} (h : Below B w w') (hB : w.heap.size ≤ B) : Within lo hi w w' := ⟨h.os, h.tape, h.output, h.size, fun k hk _ => h.block k (by omega)⟩
theorem Within.grown {lo hi : Nat} {w w' : World} {row : Option Nat} (h : w.grownBy w' row) (hr : ∀ k, row = some k → lo ≤ k ∧ k < hi) : Within lo hi w w' :=
  ⟨h.os, h.tape, h.output, h.size, fun k hk ho => h.block k hk (fun e => by have := hr k e.symm; omega)⟩
theorem Within.setCell {lo hi : Nat} (w : World) {p : Addr} (hp : lo ≤ p.block ∧ p.block < hi) (u : Value) : Within lo hi w (w.setCell p u) :=
  ⟨rfl, rfl, rfl, by simp [World.setCell], fun k _ ho => Below.heap_setCell _ _ _ _ (by omega)⟩

theorem owns_agree {w w' : World} {lo hi base : Nat} {e : TypeId} {s : Nat} {v : Value} {n : Nat} {xs : List Value} (ho : w.ownsRow base e s v n xs) (ha : Agree lo hi w w') (hb : ∀ g, v.ownBlock = some g → lo ≤ g ∧ g < hi) : w'.ownsRow base e s v n xs := by
  refine ⟨ho.1, ?_⟩
  rcases ho.2 with hn | ⟨g, cap, cur, rfl, hbg, hg, rest⟩
  · exact .inl hn
  · exact .inr ⟨g, cap, cur, rfl, hbg, by rw [ha g (hb g rfl).1 (hb g rfl).2]; exact hg, rest⟩
theorem owns_lower {w : World} {base base' : Nat} {e : TypeId} {s : Nat} {v : Value} {n : Nat} {xs : List Value} (h : w.ownsRow base e s v n xs) (hb : base' ≤ base) : w.ownsRow base' e s v n xs := by
  refine ⟨h.1, ?_⟩
  rcases h.2 with hn | ⟨g, cap, cur, rfl, hbg, hg, rest⟩
  · exact .inl hn
  · exact .inr ⟨g, cap, cur, rfl, Nat.le_trans hb hbg, hg, rest⟩
/-- Rows of two element types stand in two blocks. -/
theorem owns_ne {w : World} {b b' : Nat} {e e' : TypeId} {s s' : Nat} {v v' : Value} {n n' : Nat} {xs xs' : List Value} (h : w.ownsRow b e s v n xs) (h' : w.ownsRow b' e' s' v' n' xs') (hne : e ≠ e') : v.ownBlock = none ∨ v.ownBlock ≠ v'.ownBlock := by
  rcases h.2 with ⟨rfl, _⟩ | ⟨g, cap, cur, rfl, _, hg, _⟩
  · exact .inl rfl
  · right
    rcases h'.2 with ⟨rfl, _⟩ | ⟨g', cap', cur', rfl, _, hg', _⟩
    · simp [Value.ownBlock]
    · intro he
      simp only [Value.ownBlock, Option.some.injEq] at he
      subst he
      rw [hg] at hg'
      simp only [Option.some.injEq, Obj.cells.injEq] at hg'
      exact hne hg'.2.1

def nilS : Value := .slice none 0 0
theorem nilS_own : nilS.ownBlock = none := rfl
def Apart (a b : Value) : Prop := a.ownBlock = none ∨ a.ownBlock ≠ b.ownBlock
theorem Apart.symm {a b : Value} (h : Apart a b) : Apart b a := by
  rcases h with h | h
  · cases hb : b.ownBlock with
    | none => exact .inl hb
    | some k => exact .inr (by rw [hb, h]; simp)
  · exact .inr (fun e => h e.symm)

/-- A value that is a slice of bytes and reads as zs. -/
def Row (w : World) (v : Value) (zs : List Int) : Prop := ∃ a c, v = .slice a zs.length c ∧ Reads w a zs.length zs ∧ (a = none → c = 0) ∧ zs.length ≤ maxLen
theorem Row.below {w w' : World} {v : Value} {zs : List Int} (h : Row w v zs) {B : Nat} (hb : Below B w w') (hB : w.heap.size ≤ B) : Row w' v zs := by
  obtain ⟨a, c, h1, h2, h3⟩ := h
  exact ⟨a, c, h1, h2.below hb hB, h3⟩
theorem Row.own {w : World} {base : Nat} {v : Value} {n : Nat} {zs : List Int} (h : w.ownsRow base 5 1 v n (bys zs)) (hbd : ∀ i, 0 ≤ zs.getD i 0 ∧ zs.getD i 0 ≤ 255) : Row w v zs := by
  have hl : zs.length = n := by have := h.1; simpa [bys] using this
  obtain ⟨a, c, rfl, r, d⟩ := Reads.own h hbd
  subst hl
  refine ⟨a, c, rfl, r, ?_, ?_⟩
  · intro ha; subst ha
    rcases h.2 with ⟨h1, _⟩ | ⟨g, cap, cur, h1, _⟩
    · exact (Value.slice.inj h1).2.2
    · exact absurd (Value.slice.inj h1).1 (by simp)
  · rcases h.2 with ⟨_, h1⟩ | ⟨g, cap, cur, _, _, _, h1, h2, _⟩
    · rw [h1]; exact Nat.zero_le _
    · exact Nat.le_trans h1 h2

/-- Byte rows of the call's own: each in a block of its own within lo .. hi. -/
structure Bands (w : World) (lo hi : Nat) (xs : List Value) (ss : List (List Int)) : Prop where
  len : xs.length = ss.length
  own : ∀ i, w.ownsRow lo 5 1 (xs.getD i nilS) (ss.getD i []).length (bys (ss.getD i []))
  top : ∀ x ∈ xs, ∀ g, x.ownBlock = some g → g < hi
  apart : xs.Pairwise Apart
  bd : ∀ i j, 0 ≤ (ss.getD i []).getD j 0 ∧ (ss.getD i []).getD j 0 ≤ 255

theorem getD_mem_or {α : Type} (xs : List α) (i : Nat) (d : α) : xs.getD i d = d ∨ xs.getD i d ∈ xs := by
  by_cases h : i < xs.length
  · right
    rw [List.getD_eq_getElem?_getD, List.getElem?_eq_getElem h]
    exact List.getElem_mem h
  · left
    rw [List.getD_eq_getElem?_getD, List.getElem?_eq_none (by omega)]; rfl

theorem Bands.nil (w : World) (lo hi : Nat) : Bands w lo hi [] [] :=
  ⟨rfl, fun _ => World.ownsRow_nil _ _ _ _, fun x hx => (by cases hx), List.Pairwise.nil, fun i j => by simp⟩

theorem Bands.inr {w : World} {lo hi : Nat} {xs : List Value} {ss : List (List Int)} (h : Bands w lo hi xs ss) (i : Nat) : ∀ g, (xs.getD i nilS).ownBlock = some g → lo ≤ g ∧ g < hi := by
  intro g hg
  refine ⟨((h.own i).lt g hg).1, ?_⟩
  rcases getD_mem_or xs i nilS with e | e
  · rw [e] at hg; cases hg
  · exact h.top _ e g hg

theorem Bands.agree {w w' : World} {lo hi : Nat} {xs : List Value} {ss : List (List Int)} (h : Bands w lo hi xs ss) (ha : Agree lo hi w w') : Bands w' lo hi xs ss :=
  ⟨h.len, fun i => owns_agree (h.own i) ha (h.inr i), h.top, h.apart, h.bd⟩
theorem Bands.mono {w : World} {lo hi lo' hi' : Nat} {xs : List Value} {ss : List (List Int)} (h : Bands w lo hi xs ss) (hl : lo' ≤ lo) (hh : hi ≤ hi') : Bands w lo' hi' xs ss :=
  ⟨h.len, fun i => owns_lower (h.own i) hl, fun x hx g hg => Nat.lt_of_lt_of_le (h.top x hx g hg) hh, h.apart, h.bd⟩
theorem Bands.row {w : World} {lo hi : Nat} {xs : List Value} {ss : List (List Int)} (h : Bands w lo hi xs ss) (i : Nat) : Row w (xs.getD i nilS) (ss.getD i []) := Row.own (h.own i) (h.bd i)

theorem getD_app {α : Type} (xs ys : List α) (i : Nat) (d : α) : (xs ++ ys).getD i d = if i < xs.length then xs.getD i d else ys.getD (i - xs.length) d := by
  simp only [List.getD_eq_getElem?_getD, List.getElem?_append]
  split <;> rfl
theorem getD_set' {α : Type} (xs : List α) (i j : Nat) (v d : α) (hi : i < xs.length) : (xs.set i v).getD j d = if j = i then v else xs.getD j d := by
  simp only [List.getD_eq_getElem?_getD, List.getElem?_set]
  by_cases h : i = j
  · subst h; simp [hi]
  · rw [if_neg h, if_neg (fun e => h e.symm)]

theorem Bands.append {w : World} {lo mid hi : Nat} {xs ys : List Value} {ss ts : List (List Int)} (h : Bands w lo mid xs ss) (k : Bands w mid hi ys ts) (h1 : lo ≤ mid) (h2 : mid ≤ hi) : Bands w lo hi (xs ++ ys) (ss ++ ts) := by
  refine ⟨by rw [List.length_append, List.length_append, h.len, k.len], ?_, ?_, ?_, ?_⟩
  · intro i
    rw [getD_app, getD_app, ← h.len]
    split
    · exact h.own i
    · exact owns_lower (k.own _) h1
  · intro x hx g hg
    rcases List.mem_append.1 hx with hx | hx
    · exact Nat.lt_of_lt_of_le (h.top x hx g hg) h2
    · exact k.top x hx g hg
  · refine List.pairwise_append.2 ⟨h.apart, k.apart, fun a ha b hb => ?_⟩
    cases hA : a.ownBlock with
    | none => exact .inl hA
    | some g =>
      refine .inr (fun e => ?_)
      rw [hA] at e
      have h3 := h.top a ha g hA
      obtain ⟨i, hi, rfl⟩ := List.mem_iff_getElem.1 hb
      have := (k.inr i g (by rw [List.getD_eq_getElem?_getD, List.getElem?_eq_getElem hi]; exact e.symm)).1
      omega
  · intro i j
    rw [getD_app]
    split
    · exact h.bd i j
    · exact k.bd _ j

theorem Bands.one {w : World} {lo hi : Nat} {v : Value} {z : List Int} (h : w.ownsRow lo 5 1 v z.length (bys z)) (hb : ∀ j, 0 ≤ z.getD j 0 ∧ z.getD j 0 ≤ 255) (hh : w.heap.size ≤ hi) : Bands w lo hi [v] [z] := by
  refine ⟨rfl, ?_, ?_, List.pairwise_singleton _ _, ?_⟩
  · intro i
    cases i with
    | zero => exact h
    | succ i => simpa [bys, nilS] using World.ownsRow_nil w lo 5 1
  · intro x hx g hg
    obtain rfl := List.mem_singleton.1 hx
    exact Nat.lt_of_lt_of_le (h.lt g hg).2 hh
  · intro i j
    cases i with
    | zero => exact hb j
    | succ i => simp
theorem Bands.snoc {w : World} {lo mid hi : Nat} {xs : List Value} {ss : List (List Int)} {v : Value} {z : List Int} (h : Bands w lo mid xs ss) (h1 : lo ≤ mid) (h2 : mid ≤ hi) (o : w.ownsRow mid 5 1 v z.length (bys z)) (hb : ∀ j, 0 ≤ z.getD j 0 ∧ z.getD j 0 ≤ 255) (hh : w.heap.size ≤ hi) : Bands w lo hi (xs ++ [v]) (ss ++ [z]) :=
  h.append (Bands.one o hb hh) h1 h2
theorem Bands.left {w : World} {lo hi : Nat} {xs ys : List Value} {ss ts : List (List Int)} (h : Bands w lo hi (xs ++ ys) (ss ++ ts)) (hl : xs.length = ss.length) : Bands w lo hi xs ss := by
  refine ⟨hl, ?_, fun x hx => h.top x (List.mem_append.2 (.inl hx)), (List.pairwise_append.1 h.apart).1, ?_⟩
  · intro i
    by_cases hi : i < xs.length
    · have := h.own i
      rw [getD_app, getD_app, ← hl, if_pos hi, if_pos hi] at this
      exact this
    · rw [List.getD_eq_getElem?_getD, List.getD_eq_getElem?_getD, List.getElem?_eq_none (by omega), List.getElem?_eq_none (by omega)]
      exact World.ownsRow_nil _ _ _ _
  · intro i j
    by_cases hi : i < ss.length
    · have := h.bd i j
      rw [getD_app, if_pos hi] at this
      exact this
    · rw [List.getD_eq_getElem?_getD (l := ss), List.getElem?_eq_none (by omega)]; simp
theorem Bands.right {w : World} {lo hi : Nat} {xs ys : List Value} {ss ts : List (List Int)} (h : Bands w lo hi (xs ++ ys) (ss ++ ts)) (hl : xs.length = ss.length) : Bands w lo hi ys ts := by
  refine ⟨?_, ?_, fun x hx => h.top x (List.mem_append.2 (.inr hx)), (List.pairwise_append.1 h.apart).2.1, ?_⟩
  · have := h.len
    rw [List.length_append, List.length_append] at this
    omega
  · intro i
    have := h.own (xs.length + i)
    rw [getD_app, getD_app, ← hl, if_neg (by omega), if_neg (by omega), show xs.length + i - xs.length = i by omega] at this
    exact this
  · intro i j
    have := h.bd (ss.length + i) j
    rw [getD_app, if_neg (by omega), show ss.length + i - ss.length = i by omega] at this
    exact this

/-- One of the rows is written. -/
theorem Bands.put {w w' : World} {lo hi : Nat} {xs : List Value} {ss : List (List Int)} (h : Bands w lo hi xs ss) {i : Nat} (hi' : i < ss.length) {z : List Int}
    (hg : w.grownBy w' (xs.getD i nilS).ownBlock) (o : w'.ownsRow lo 5 1 (xs.getD i nilS) z.length (bys z)) (hb : ∀ j, 0 ≤ z.getD j 0 ∧ z.getD j 0 ≤ 255) : Bands w' lo hi xs (ss.set i z) := by
  refine ⟨by rw [List.length_set]; exact h.len, ?_, h.top, h.apart, ?_⟩
  · intro j
    rw [getD_set' ss i j z [] hi']
    split
    · rename_i e; subst e; exact o
    · rename_i e
      refine (h.own j).kept hg ?_
      by_cases hj : j < xs.length
      · have hl := h.len
        have hx : ∀ a b, a < b → b < xs.length → Apart (xs.getD a nilS) (xs.getD b nilS) := by
          intro a b hab hbl
          have := List.pairwise_iff_getElem.1 h.apart a b (by omega) hbl hab
          rw [List.getD_eq_getElem?_getD, List.getD_eq_getElem?_getD, List.getElem?_eq_getElem hbl, List.getElem?_eq_getElem (show a < xs.length by omega)]
          exact this
        by_cases hij : j < i
        · exact hx j i hij (by omega)
        · exact (hx i j (by omega) hj).symm
      · left
        rw [List.getD_eq_getElem?_getD, List.getElem?_eq_none (by omega)]; rfl
  · intro j q
    rw [getD_set' ss i j z [] hi']
    split
    · exact hb q
    · exact h.bd j q

/-- Another row, of another element type, is written. -/
theorem Bands.beside {w w' : World} {lo hi : Nat} {xs : List Value} {ss : List (List Int)} (h : Bands w lo hi xs ss) {row : Option Nat} (hg : w.grownBy w' row) (hne : ∀ i, (xs.getD i nilS).ownBlock = none ∨ (xs.getD i nilS).ownBlock ≠ row) : Bands w' lo hi xs ss :=
  ⟨h.len, fun i => (h.own i).kept hg (hne i), h.top, h.apart, h.bd⟩

/-- One row is changed for a new one. -/
theorem Bands.swap {w : World} {lo mid hi : Nat} {xs : List Value} {ss : List (List Int)} (h : Bands w lo mid xs ss) (h1 : lo ≤ mid) (h2 : mid ≤ hi) {i : Nat} (hi' : i < ss.length) {v : Value} {z : List Int}
    (o : w.ownsRow mid 5 1 v z.length (bys z)) (hb : ∀ j, 0 ≤ z.getD j 0 ∧ z.getD j 0 ≤ 255) (hh : w.heap.size ≤ hi) : Bands w lo hi (xs.set i v) (ss.set i z) := by
  have hl := h.len
  have hfar : ∀ j, Apart (xs.getD j nilS) v := by
    intro j
    cases hA : (xs.getD j nilS).ownBlock with
    | none => exact .inl hA
    | some g =>
      refine .inr (fun e => ?_)
      have h3 := (h.inr j g hA).2
      rw [hA] at e
      have := (o.lt g e.symm).1
      omega
  refine ⟨by rw [List.length_set, List.length_set]; exact hl, ?_, ?_, ?_, ?_⟩
  · intro j
    rw [getD_set' ss i j z [] hi', getD_set' xs i j v nilS (by omega)]
    split
    · exact owns_lower o h1
    · exact h.own j
  · intro x hx g hg
    rcases List.mem_or_eq_of_mem_set hx with hx | rfl
    · exact Nat.lt_of_lt_of_le (h.top x hx g hg) h2
    · exact Nat.lt_of_lt_of_le (o.lt g hg).2 hh
  · refine List.pairwise_iff_getElem.2 fun a b ha hb' hab => ?_
    rw [List.length_set] at ha hb'
    have e : ∀ q (hq : q < (xs.set i v).length), (xs.set i v)[q] = (xs.set i v).getD q nilS := fun q hq => by rw [List.getD_eq_getElem?_getD, List.getElem?_eq_getElem hq]; rfl
    have e' : ∀ q (hq : q < xs.length), xs[q] = xs.getD q nilS := fun q hq => by rw [List.getD_eq_getElem?_getD, List.getElem?_eq_getElem hq]; rfl
    rw [e, e, getD_set' xs i a v nilS (by omega), getD_set' xs i b v nilS (by omega)]
    by_cases h3 : a = i
    · rw [if_pos h3, if_neg (by omega)]; exact (hfar b).symm
    · rw [if_neg h3]
      by_cases h4 : b = i
      · rw [if_pos h4]; exact hfar a
      · rw [if_neg h4]
        have := List.pairwise_iff_getElem.1 h.apart a b ha hb' hab
        rw [e', e'] at this
        exact this
  · intro j q
    rw [getD_set' ss i j z [] hi']
    split
    · exact hb q
    · exact h.bd j q
end Go.Proofs.YtoppccfgcccijaaDoor
/- Blocks that are laid one behind the other. No statement of its own; no conditions. -/


namespace Go.Proofs.YtoppccfgcccijaaDoor
open Go.RowKit

theorem alloc_size (w : World) (o : Obj) : (w.alloc o).heap.size = w.heap.size + 1 := by simp
theorem alloc_old (w : World) (o : Obj) (k : Nat) (h : k < w.heap.size) : (w.alloc o).heap[k]? = w.heap[k]? := by
  show (w.heap.push o)[k]? = w.heap[k]?
  rw [Array.getElem?_push, if_neg (by omega)]
theorem three (w : World) (a b c : Obj) :
    (((w.alloc a).alloc b).alloc c).heap.size = w.heap.size + 3 ∧ (((w.alloc a).alloc b).alloc c).heap[w.heap.size + 1]? = some b ∧ (((w.alloc a).alloc b).alloc c).heap[w.heap.size + 1 + 1]? = some c ∧ Below w.heap.size w (((w.alloc a).alloc b).alloc c) := by
  have h1 := alloc_size w a
  have h2 := alloc_size (w.alloc a) b
  have h3 := alloc_size ((w.alloc a).alloc b) c
  refine ⟨by omega, ?_, ?_, (((Below.refl _ _).alloc (Nat.le_refl _) _).alloc (by omega) _).alloc (by omega) _⟩
  · rw [alloc_old _ _ _ (by omega)]
    have := heap_alloc_new (w.alloc a) b
    rwa [h1] at this
  · have := heap_alloc_new ((w.alloc a).alloc b) c
    rwa [h2, h1] at this
theorem two (w : World) (a b : Obj) : Below w.heap.size w ((w.alloc a).alloc b) := ((Below.refl _ _).alloc (Nat.le_refl _) _).alloc (by simp) _

theorem owns_at {w w' : World} {base : Nat} {e : TypeId} {s : Nat} {v : Value} {n : Nat} {xs : List Value} (ho : w.ownsRow base e s v n xs) (h : ∀ k, base ≤ k → w'.heap[k]? = w.heap[k]?) : w'.ownsRow base e s v n xs := by
  refine ⟨ho.1, ?_⟩
  rcases ho.2 with hn | ⟨g, cap, cur, rfl, hbg, hg, rest⟩
  · exact .inl hn
  · exact .inr ⟨g, cap, cur, rfl, hbg, by rw [h g hbg]; exact hg, rest⟩
theorem owns_base {w : World} {base base' : Nat} {e : TypeId} {s : Nat} {v : Value} {n : Nat} {xs : List Value} (h : w.ownsRow base e s v n xs) (hb : base' ≤ base) : w.ownsRow base' e s v n xs := by
  refine ⟨h.1, ?_⟩
  rcases h.2 with hn | ⟨g, cap, cur, rfl, hbg, hg, rest⟩
  · exact .inl hn
  · exact .inr ⟨g, cap, cur, rfl, Nat.le_trans hb hbg, hg, rest⟩
theorem Below.alloc1 (w : World) (o : Obj) : Below w.heap.size w (w.alloc o) := (Below.refl w.heap.size w).alloc (Nat.le_refl _) o
theorem Below.drewN {B : Nat} (w : World) (k : Nat) : Below B w (w.drewN k) := (Still.drewN w k).below B
end Go.Proofs.YtoppccfgcccijaaDoor
/- The specification's decimal digits of a number. For every argument. -/







namespace Go.Proofs.YtoppccfgcccijaaDoor
open Go.RowKit
set_option maxRecDepth 100000

/-- What is left of a number's digits. -/
structure Dg (n : Nat) (r m : Nat) (bs : List Int) : Prop where
  lt : m < 10 ^ (r + 1)
  eq : lowD 20 n = bs ++ lowD r m
  len : bs.length + r = 20
theorem Dg.start {n : Nat} (h : n ≤ 9223372036854775808) : Dg n 20 n [] := ⟨by omega, rfl, rfl⟩
theorem Dg.step {n r m : Nat} {bs : List Int} (h : Dg n r m bs) (hm : 9 < m) : ∃ r', r = r' + 1 ∧ Dg n r' (m / 10) (bs ++ [48 + ((m % 10 : Nat) : Int)]) := by
  obtain ⟨h1, h2, h3⟩ := h
  cases r with
  | zero => simp at h1; omega
  | succ r =>
    refine ⟨r, rfl, ?_, ?_, ?_⟩
    · rw [Nat.pow_succ] at h1; omega
    · rw [h2, lowD_big hm, List.append_assoc]; rfl
    · rw [List.length_append, List.length_singleton]; omega
theorem Dg.last {n r m : Nat} {bs : List Int} (h : Dg n r m bs) (hm : ¬ 9 < m) : lowD 20 n = bs ++ [48 + (m : Int)] := by rw [h.eq, lowD_one hm]
theorem rev_step (L : List Int) (k : Nat) (h : k < L.length) : (L.drop k).reverse = (L.drop (k + 1)).reverse ++ [L.getD k 0] := by
  rw [List.drop_eq_getElem_cons h, List.reverse_cons]
  simp [List.getD, h]
set_option maxHeartbeats 3200000 in
theorem spec_l18digits_pos (n : Nat) (w : World) (hn : n ≤ 9223372036854775807) :
    Calls Tryd.prog 27 #[.int .i64 (n : Int)] w fun e w' => ∃ v, e = .returned v ∧ w'.ownsRow w.heap.size 5 1 v (decN n).length (bys (decN n)) ∧ Below w.heap.size w w' := by
  obtain ⟨i0, hi, hz0, hz1, hz2⟩ := info_parts Tryd.info5
  have e1 : ¬ (n : Int) = -9223372036854775808 := by omega
  have e2 : ¬ (n : Int) < 0 := by omega
  go_enter Tryd.func27, Tryd.ntmps27
  go_wp2_with fail
  clear e1 e2
  go_loopw [0, 3] (fun s v wr => ∃ (r m : Nat) (bs : List Int), s = .int .i64 (m : Int) ∧ m ≤ 9223372036854775807 ∧ Hid (Dg n r m bs) ∧ Hid (wr.ownsRow w.heap.size 5 1 v bs.length (bys bs)) ∧ Hid (Below w.heap.size w wr)) (fun s _ _ => (intOf s).toNat)
  case atStart => exact ⟨20, n, [], rfl, hn, hid (Dg.start (by omega)), hid (World.ownsRow_nil _ _ _ _), hid (Below.refl _ _)⟩
  case round =>
    obtain ⟨r, m, bs, rfl, hm, HD, HO, HB⟩ := hrel
    have hbl : bs.length ≤ 20 := by have := HD.out.len; omega
    have hsz := HB.out.size
    by_cases h9 : 9 < m
    · obtain ⟨r', rfl, hd⟩ := HD.out.step h9
      have HD2 := hid hd
      have h9' : (9 : Int) < (m : Int) := by omega
      have HN := hid (heap_alloc_new wr (.cells #[.int .u8 (48 + (m : Int) % 10)] 5))
      have HA := hid (HO.out.alloc (.cells #[.int .u8 (48 + (m : Int) % 10)] 5))
      have HBA := hid (HB.out.alloc hsz (.cells #[.int .u8 (48 + (m : Int) % 10)] 5))
      have hsz2 := HBA.out.size
      clear h9 hd
      go_wp2_with (at_builtin; refine wpList_append_own _ rfl _ _ 23 rfl w.heap.size 5 i0 (.int .u8 0) 1 1 Tryd.underlying23 hi hz0 hz1 hz2 rfl (by decide) _ _ _ rfl HA.out ⟨wr.heap.size, 0, none⟩ 1 1 [.int .u8 (48 + (m : Int) % 10)] rfl rfl (cell_one_new _ _ _) ?c2 ?c3 ?c4 ?c5 ?_)
      case c2 => intro u hu; simp at hu; subst hu; rfl
      case c3 => unfold maxLen; omega
      case c4 => omega
      case c5 => omega
      intro v' w1 hown' hgrow _
      have HB1 := hid (HBA.out.grown hgrow hsz2 (fun j hj => (HO.out.lt j hj).1))
      have HO1 := hid hown'
      clear hown' hgrow HO HA HN hsz2 HB HBA
      go_wp2_with fail
      go_roundw
      case rel =>
        refine ⟨r', m / 10, _, by go_num, by omega, HD2, ?_, HB1⟩
        have := HO1.out
        rw [List.length_append, List.length_singleton, bys_append]
        exact hid this
      case measure => simp [intOf]; omega
    · have h9' : ¬ (9 : Int) < (m : Int) := by omega
      have HL := hid (HD.out.last h9)
      have HN := hid (heap_alloc_new wr (.cells #[.int .u8 (48 + (m : Int))] 5))
      have HA := hid (HO.out.alloc (.cells #[.int .u8 (48 + (m : Int))] 5))
      have HBA := hid (HB.out.alloc hsz (.cells #[.int .u8 (48 + (m : Int))] 5))
      have hsz2 := HBA.out.size
      have hw1 : IntKind.i64.wrap (48 + (m : Int)) = 48 + (m : Int) := by simp [IntKind.wrap, IntKind.bits, IntKind.signed]; omega
      have hw2 : IntKind.u8.wrap (48 + (m : Int)) = 48 + (m : Int) := by simp [IntKind.wrap, IntKind.bits, IntKind.signed]; omega
      clear h9
      go_wp2_with (at_builtin; refine wpList_append_own _ rfl _ _ 23 rfl w.heap.size 5 i0 (.int .u8 0) 1 1 Tryd.underlying23 hi hz0 hz1 hz2 rfl (by decide) _ _ _ rfl HA.out ⟨wr.heap.size, 0, none⟩ 1 1 [.int .u8 (48 + (m : Int))] rfl rfl (cell_one_new _ _ _) ?d2 ?d3 ?d4 ?d5 ?_)
      case d2 => rfl
      case d3 => unfold maxLen; omega
      case d4 => omega
      case d5 => omega
      intro v' w1 hown' hgrow _
      have HB1 := hid (HBA.out.grown hgrow hsz2 (fun j hj => (HO.out.lt j hj).1))
      obtain ⟨L, hL⟩ : ∃ L, lowD 20 n = L := ⟨_, rfl⟩
      have HO1 := hid (show w1.ownsRow w.heap.size 5 1 v' L.length (bys L) by rw [← hL, HL.out, List.length_append, List.length_singleton, bys_append]; exact hown')
      have hlen : 1 ≤ L.length ∧ L.length ≤ 21 := by rw [← hL]; exact lowD_len 20 n
      have HDn := hid (show decN n = (L.drop 0).reverse by unfold decN; rw [hL]; rfl)
      clear hown' hgrow HO HA HN hsz2 HB HBA HD HL hL hw1 hw2 hsz
      obtain ⟨g, cv, rfl⟩ : ∃ g c, v' = .slice (some ⟨g, 0, none⟩) L.length c := by
        rcases HO1.out.2 with ⟨e, h0⟩ | ⟨g, cp, cu, e, _⟩
        · omega
        · exact ⟨g, cp, e⟩
      have HC := hid (show ∀ j, j < L.length → w1.cell? ⟨g, j, none⟩ = some (.int .u8 (L.getD j 0)) from fun j hj => by
        rw [HO1.out.cellAt j (by omega)]
        simp [bys, List.getD, hj])
      obtain ⟨l, hl⟩ : ∃ l, L.length = l := ⟨_, rfl⟩
      rw [hl] at hlen HC HO1
      have HLl := hid hl
      simp only [hl]
      clear hl
      have hw1 : IntKind.i64.wrap ((l : Int) - 1) = (l : Int) - 1 := by simp [IntKind.wrap, IntKind.bits, IntKind.signed]; omega
      go_wp2_with fail
      go_loopw [4, 5] (fun v s wr => ∃ k : Nat, k ≤ l ∧ s = .int .i64 ((k : Int) - 1) ∧ Hid (wr.ownsRow w1.heap.size 5 1 v (l - k) (bys (L.drop k).reverse)) ∧ Hid (Below w1.heap.size w1 wr)) (fun _ s _ => (intOf s + 1).toNat)
      case atStart =>
        refine ⟨l, Nat.le_refl _, rfl, hid ?_, hid (Below.refl _ _)⟩
        rw [List.drop_of_length_le (by rw [HLl.out]; exact Nat.le_refl _), Nat.sub_self]
        exact World.ownsRow_nil _ _ _ _
      case round =>
        obtain ⟨k, hk, rfl, HO, HB⟩ := hrel
        have hsz := HB.out.size
        by_cases hk0 : 0 < k
        · obtain ⟨k, rfl⟩ : ∃ k', k = k' + 1 := ⟨k - 1, by omega⟩
          have hge : (0 : Int) ≤ ((k + 1 : Nat) : Int) - 1 := by omega
          have hlt : ((k + 1 : Nat) : Int) - 1 < (l : Int) := by omega
          have hcell := (HB.out.cell (p := ⟨g, k, none⟩) (World.block_lt_of_cell? w1 _ (HC.out k (by omega)))).trans (HC.out k (by omega))
          have HA := hid (HO.out.alloc (.cells #[.int .u8 (L.getD k 0)] 5))
          have HBA := hid (HB.out.alloc hsz (.cells #[.int .u8 (L.getD k 0)] 5))
          have hsz2 := HBA.out.size
          have HRv := hid (rev_step L k (by rw [HLl.out]; omega))
          have hidx : ((k + 1 : Nat) : Int) - 1 = (k : Int) := by omega
          rw [hidx] at hge hlt ⊢
          clear hidx hk0
          go_wp2_with (at_builtin; refine wpList_append_own _ rfl _ _ 23 rfl w1.heap.size 5 i0 (.int .u8 0) 1 1 Tryd.underlying23 hi hz0 hz1 hz2 rfl (by decide) _ _ _ rfl HA.out ⟨wr.heap.size, 0, none⟩ 1 1 [.int .u8 (L.getD k 0)] rfl rfl (cell_one_new _ _ _) ?f2 ?f3 ?f4 ?f5 ?_)
          case f2 => intro u hu; simp at hu; subst hu; rfl
          case f3 => unfold maxLen; omega
          case f4 => omega
          case f5 => first | omega | exact hsz2 | (simp; omega)
          intro v2 w2 hown' hgrow _
          have HB1 := hid (HBA.out.grown hgrow hsz2 (fun j hj => (HO.out.lt j hj).1))
          have HO2 := hid (show w2.ownsRow w1.heap.size 5 1 v2 (l - k) (bys (L.drop k).reverse) by
            have := hown'
            rw [show l - (k + 1) + 1 = l - k by omega] at this
            rw [HRv.out, bys_append]
            exact this)
          clear hown' hgrow HO HA hsz2 HB HBA hcell
          go_wp2_with fail
          go_roundw
          case rel => exact ⟨k, by omega, by go_num, HO2, HB1⟩
          case measure => simp [intOf]
        · obtain rfl : k = 0 := by omega
          have hge : ¬ (0 : Int) ≤ ((0 : Nat) : Int) - 1 := by omega
          have HBf := hid (HB1.out.trans (HB.out.mono HB1.out.size))
          go_wp2_with fail
          go_ret
          refine ⟨_, rfl, ?_, HBf.out⟩
          rw [HDn.out, List.length_reverse, List.drop_zero, HLl.out]
          have := HO.out
          rw [Nat.sub_zero, List.drop_zero] at this
          exact owns_lower this HB1.out.size
/-- An owned row of bytes that is not empty, by its cells. -/
theorem own_bytes {w : World} {b n : Nat} {v : Value} {L : List Int} (h : w.ownsRow b 5 1 v n (bys L)) (hn : 0 < n) : ∃ g c, v = .slice (some ⟨g, 0, none⟩) n c ∧ L.length = n ∧ n ≤ c ∧ c ≤ maxLen ∧ b ≤ g ∧ g < w.heap.size ∧ ∀ j u, (bys L)[j]? = some u → w.cell? ((⟨g, 0, none⟩ : Addr).add j) = some u := by
  have h1 := h.1
  rw [bys_length] at h1
  rcases h.2 with ⟨e, h0⟩ | ⟨g, cp, cu, e, q0, q3, q1, q2, _⟩
  · omega
  · subst e
    refine ⟨g, cp, rfl, by omega, q1, q2, q0, (Array.getElem?_eq_some_iff.1 q3).1, fun j u hu => ?_⟩
    have hj := (List.getElem?_eq_some_iff.1 hu).1
    rw [bys_length] at hj
    rw [Addr.add_lit, Nat.zero_add]
    exact (h.cellAt j (by omega)).trans hu
theorem bys_ones (L : List Int) : ∀ u ∈ bys L, u.oneCell' = true := fun u hu => by
  unfold bys at hu
  obtain ⟨k, _, rfl⟩ := List.mem_map.1 hu
  rfl
/-- Bytes (one at least) in memory that is new since B; nothing is said of what stands behind them. -/
structure NewB (B : Nat) (w : World) (v : Value) (L : List Int) : Prop where
  ex : ∃ g c, v = .slice (some ⟨g, 0, none⟩) L.length c ∧ 0 < L.length ∧ L.length ≤ c ∧ c ≤ maxLen ∧ B ≤ g ∧ g < w.heap.size ∧ ∀ j u, (bys L)[j]? = some u → w.cell? ((⟨g, 0, none⟩ : Addr).add j) = some u
theorem NewB.own {w : World} {b : Nat} {v : Value} {L : List Int} (h : w.ownsRow b 5 1 v L.length (bys L)) (hn : 0 < L.length) : NewB b w v L := by
  obtain ⟨g, c, e, _, h1, h2, h3, h4, h5⟩ := own_bytes h hn
  exact ⟨g, c, e, hn, h1, h2, h3, h4, h5⟩
theorem NewB.below {B : Nat} {w w' : World} {v : Value} {L : List Int} (h : NewB B w v L) (b : Below w.heap.size w w') : NewB B w' v L := by
  obtain ⟨g, c, e, h0, h1, h2, h3, h4, h5⟩ := h.ex
  exact ⟨g, c, e, h0, h1, h2, h3, Nat.lt_of_lt_of_le h4 b.size, fun j u hu => (b.cell (World.block_lt_of_cell? w _ (h5 j u hu))).trans (h5 j u hu)⟩
theorem NewB.lower {B B' : Nat} {w : World} {v : Value} {L : List Int} (h : NewB B w v L) (hb : B' ≤ B) : NewB B' w v L := by
  obtain ⟨g, c, e, h0, h1, h2, h3, h4, h5⟩ := h.ex
  exact ⟨g, c, e, h0, h1, h2, Nat.le_trans hb h3, h4, h5⟩
theorem NewB.rd {B : Nat} {w : World} {v : Value} {L : List Int} (h : NewB B w v L) (hL : ∀ i, 0 ≤ L.getD i 0 ∧ L.getD i 0 ≤ 255) : ∃ a c, v = .slice a L.length c ∧ Reads w a L.length L := by
  obtain ⟨g, c, e, h0, h1, h2, h3, h4, h5⟩ := h.ex
  refine ⟨_, c, e, rfl, .inr ⟨g, 0, rfl, fun i hi => ?_⟩, hL⟩
  have := h5 i (.int .u8 (L.getD i 0)) (by simp [bys, List.getD, hi])
  rw [Addr.add_lit, Nat.zero_add] at this
  rw [Nat.zero_add]
  exact this
/-- A constant's bytes, marked behind their last. -/
theorem NewB.lit (w : World) (C : Array Value) (L : List Int) (hC : C.toList = bys L) (hn : 0 < L.length) (hm : L.length ≤ maxLen) (fz : Nat × Nat) : NewB w.heap.size (w.alloc (.cells C 5 fz)) (.slice (some ⟨w.heap.size, 0, none⟩) L.length L.length) L :=
  ⟨_, _, rfl, hn, Nat.le_refl _, hm, Nat.le_refl _, by rw [alloc_size]; omega, fun j u hu => World.news_of_block (heap_alloc_new w _) j u (by rw [hC]; exact hu)⟩
set_option maxHeartbeats 3200000 in
theorem spec_l18digits (n : Int) (w : World) (hn : -9223372036854775808 ≤ n ∧ n ≤ 9223372036854775807) :
    Calls Tryd.prog 27 #[.int .i64 n] w fun e w' => ∃ v, e = .returned v ∧ NewB w.heap.size w' v (decI n) ∧ Below w.heap.size w w' := by
  by_cases hp : 0 ≤ n
  · obtain ⟨m, rfl⟩ : ∃ m : Nat, n = (m : Int) := ⟨n.toNat, by omega⟩
    rw [show decI (m : Int) = decN m by unfold decI; rw [if_neg (by omega), Int.toNat_natCast]]
    refine (spec_l18digits_pos m w (by omega)).mono ?_
    rintro e w1 ⟨v, rfl, o, b⟩
    exact ⟨v, rfl, NewB.own o (by have := decN_len m; omega), b⟩
  obtain ⟨i0, hi, hz0, hz1, hz2⟩ := info_parts Tryd.info5
  by_cases hm : n = -9223372036854775808
  · subst hm
    have HB := hid (Below.alloc1 w (.cells #[.int .u8 45, .int .u8 57, .int .u8 50, .int .u8 50, .int .u8 51, .int .u8 51, .int .u8 55, .int .u8 50, .int .u8 48, .int .u8 51, .int .u8 54, .int .u8 56, .int .u8 53, .int .u8 52, .int .u8 55, .int .u8 55, .int .u8 53, .int .u8 56, .int .u8 48, .int .u8 56] 5 (20, 21)))
    have HO := hid (NewB.lit w #[.int .u8 45, .int .u8 57, .int .u8 50, .int .u8 50, .int .u8 51, .int .u8 51, .int .u8 55, .int .u8 50, .int .u8 48, .int .u8 51, .int .u8 54, .int .u8 56, .int .u8 53, .int .u8 52, .int .u8 55, .int .u8 55, .int .u8 53, .int .u8 56, .int .u8 48, .int .u8 56] (decI (-9223372036854775808)) (by rw [decI_min]; rfl) (by rw [decI_min]; simp) (by rw [decI_min]; unfold maxLen; simp) (20, 21))
    have hcv := Go.Lib.run_convert_bytes_const (P := Tryd.prog) w 23 5 #[.int .u8 45, .int .u8 57, .int .u8 50, .int .u8 50, .int .u8 51, .int .u8 51, .int .u8 55, .int .u8 50, .int .u8 48, .int .u8 51, .int .u8 54, .int .u8 56, .int .u8 53, .int .u8 52, .int .u8 55, .int .u8 55, .int .u8 53, .int .u8 56, .int .u8 48, .int .u8 56] 20 20 Tryd.underlying23 Tryd.underlying5
    go_enter Tryd.func27, Tryd.ntmps27
    go_wp2_with fail
    go_ret
    exact ⟨_, rfl, by have := HO.out; rw [decI_min] at *; exact this, HB.out⟩
  · obtain ⟨m, rfl⟩ : ∃ m : Nat, n = -(m : Int) := ⟨(-n).toNat, by omega⟩
    have e1 : ¬ -(m : Int) = -9223372036854775808 := by omega
    have e2 : -(m : Int) < 0 := by omega
    have hw : IntKind.i64.wrap (m : Int) = (m : Int) := by simp [IntKind.wrap, IntKind.bits, IntKind.signed]; omega
    have hnn : - -(m : Int) = (m : Int) := by omega
    have HD := hid (show decI (-(m : Int)) = 45 :: decN m by unfold decI; rw [if_pos e2, hnn, Int.toNat_natCast])
    have HO := hid (World.news_of_block (heap_alloc_new w (.cells #[.int .u8 45] 5 (1, 2))))
    have HB := hid (Below.alloc1 w (.cells #[.int .u8 45] 5 (1, 2)))
    have hcv := Go.Lib.run_convert_bytes_const (P := Tryd.prog) w 23 5 #[.int .u8 45] 1 1 Tryd.underlying23 Tryd.underlying5
    go_enter Tryd.func27, Tryd.ntmps27
    go_wp2_with fail
    clear hcv
    refine (spec_l18digits_pos m _ (by omega)).mono ?_
    rintro e w1 ⟨v, rfl, o, b⟩
    have hl := decN_len m
    obtain ⟨L, hL⟩ : ∃ L, decN m = L := ⟨_, rfl⟩
    rw [hL] at o hl
    have HL := hid hL
    obtain ⟨g, c, rfl, _, h1, h2, _, _, hc⟩ := own_bytes o (by omega)
    have HC := hid hc
    have HO1 := hid (show ∀ b', (some ⟨w.heap.size, 0, none⟩ : Option Addr) = some b' → ∀ j u, [Value.int .u8 45][j]? = some u → w1.cell? (b'.add j) = some u from fun b' e j u hu => by
      cases e
      have := HO.out j u hu
      exact (b.cell (World.block_lt_of_cell? _ _ this)).trans this)
    have HB1 := hid (HB.out.trans (b.mono HB.out.size))
    have hsz := HB1.out.size
    obtain ⟨l, hll⟩ : ∃ l, L.length = l := ⟨_, rfl⟩
    rw [hll] at hl h1
    simp only [hll]
    have HLl := hid hll
    clear hL hll o b hc HO HB e1 e2 hw hnn hp hm
    go_wp2_with (at_builtin; refine wpList_append_grows w1 rfl _ _ 23 rfl 5 i0 (.int .u8 0) 1 1 Tryd.underlying23 hi hz0 hz1 hz2 rfl (by decide) (some ⟨w.heap.size, 0, none⟩) 1 1 [.int .u8 45] rfl (fun e => by cases e) rfl HO1.out ⟨g, 0, none⟩ l c (bys L) rfl (by rw [bys_length, HLl.out, Nat.mul_one]) HC.out (bys_ones L) ?f2 ?f3 ?f4 ?_)
    case f2 => omega
    case f3 => unfold maxLen; omega
    case f4 => omega
    intro v2 w2 hown' hgrow
    have hb2 : Below w1.heap.size w1 w2 := (Below.refl _ _).grown hgrow (Nat.le_refl _) (fun j hj => by cases hj)
    have HB2 := hid (HB1.out.trans (hb2.mono hsz))
    have HO2 := hid (show NewB w.heap.size w2 v2 (decI (-(m : Int))) by
      refine NewB.lower (NewB.own (b := w1.heap.size) ?_ ?_) hsz
      · rw [HD.out, HL.out, List.length_cons, HLl.out, Nat.add_comm l 1]
        exact hown'
      · rw [HD.out]; simp)
    clear hown' hgrow hb2
    go_wp2_with fail
    go_ret
    exact ⟨_, rfl, HO2.out, HB2.out⟩
end Go.Proofs.YtoppccfgcccijaaDoor
/- The specification's hexadecimal digits of bytes. Conditions: at most 2^21 bytes. -/

namespace Go.Proofs.YtoppccfgcccijaaDoor
open Go.RowKit
set_option maxRecDepth 100000

theorem hexB_take (zs : List Int) {k : Nat} (h : k < zs.length) : hexB (zs.take (k + 1)) = hexB (zs.take k) ++ [hexD (zs.getD k 0 / 16)] ++ [hexD (zs.getD k 0 % 16)] := by
  rw [List.take_succ_eq_append_getElem h, hexB_app, List.append_assoc]
  congr 1
  simp [hexB, List.getD, h]
set_option maxHeartbeats 3200000 in
theorem spec_l18hex {ad : Option Addr} {n : Nat} (cap : Nat) {zs : List Int} {w : World} (h : Reads w ad n zs) (hn : n ≤ 2097152) :
    Calls Tryd.prog 28 #[.slice ad n cap] w fun e w' => ∃ v, e = .returned v ∧ w'.ownsRow w.heap.size 5 1 v (hexB zs).length (bys (hexB zs)) ∧ (n = 0 → v = .slice none 0 0) ∧ Below w.heap.size w w' := by
  obtain ⟨i0, hi, hz0, hz1, hz2⟩ := info_parts Tryd.info5
  have HR := hid h
  have HBd := hid h.bd
  have hl := h.len
  have HB0 := hid (Below.alloc1 w (.cells #[.int .u8 48, .int .u8 49, .int .u8 50, .int .u8 51, .int .u8 52, .int .u8 53, .int .u8 54, .int .u8 55, .int .u8 56, .int .u8 57, .int .u8 97, .int .u8 98, .int .u8 99, .int .u8 100, .int .u8 101, .int .u8 102] 5 (16, 17)))
  have HN0 := hid (heap_alloc_new w (.cells #[.int .u8 48, .int .u8 49, .int .u8 50, .int .u8 51, .int .u8 52, .int .u8 53, .int .u8 54, .int .u8 55, .int .u8 56, .int .u8 57, .int .u8 97, .int .u8 98, .int .u8 99, .int .u8 100, .int .u8 101, .int .u8 102] 5 (16, 17)))
  have HZ0 := hid (alloc_size w (.cells #[.int .u8 48, .int .u8 49, .int .u8 50, .int .u8 51, .int .u8 52, .int .u8 53, .int .u8 54, .int .u8 55, .int .u8 56, .int .u8 57, .int .u8 97, .int .u8 98, .int .u8 99, .int .u8 100, .int .u8 101, .int .u8 102] 5 (16, 17)))
  have hcv := Go.Lib.run_convert_bytes_const (P := Tryd.prog) w 23 5 #[.int .u8 48, .int .u8 49, .int .u8 50, .int .u8 51, .int .u8 52, .int .u8 53, .int .u8 54, .int .u8 55, .int .u8 56, .int .u8 57, .int .u8 97, .int .u8 98, .int .u8 99, .int .u8 100, .int .u8 101, .int .u8 102] 16 16 Tryd.underlying23 Tryd.underlying5
  clear h
  go_enter Tryd.func28, Tryd.ntmps28
  go_wp2_with fail
  clear hcv
  generalize w.alloc (.cells #[.int .u8 48, .int .u8 49, .int .u8 50, .int .u8 51, .int .u8 52, .int .u8 53, .int .u8 54, .int .u8 55, .int .u8 56, .int .u8 57, .int .u8 97, .int .u8 98, .int .u8 99, .int .u8 100, .int .u8 101, .int .u8 102] 5 (16, 17)) = U at *
  obtain ⟨gd, hgd⟩ : ∃ gd, w.heap.size = gd := ⟨_, rfl⟩
  have HGd := hid hgd
  rw [hgd] at HN0 HZ0
  try simp only [hgd]
  clear hgd
  have HD := hid (show ∀ d : Int, 0 ≤ d → d < 16 → ∀ W, Below U.heap.size U W → W.cell? ⟨gd, d.toNat, none⟩ = some (.int .u8 (hexD d)) from fun d h0 h1 W b => by
    have hb := (b.block gd (by have := HZ0.out; omega)).trans HN0.out
    rw [cell_of_row _ _ _ _ _ _ hb]
    have : d = 0 ∨ d = 1 ∨ d = 2 ∨ d = 3 ∨ d = 4 ∨ d = 5 ∨ d = 6 ∨ d = 7 ∨ d = 8 ∨ d = 9 ∨ d = 10 ∨ d = 11 ∨ d = 12 ∨ d = 13 ∨ d = 14 ∨ d = 15 := by omega
    rcases this with rfl | rfl | rfl | rfl | rfl | rfl | rfl | rfl | rfl | rfl | rfl | rfl | rfl | rfl | rfl | rfl <;> rfl)
  go_loopw [3, 5] (fun v s wr => ∃ k : Nat, k ≤ n ∧ s = .int .i64 (k : Int) ∧ Hid (k = 0 → v = .slice none 0 0) ∧ Hid (wr.ownsRow U.heap.size 5 1 v (2 * k) (bys (hexB (zs.take k)))) ∧ Hid (Below U.heap.size U wr)) (fun _ s _ => n - (intOf s).toNat)
  case atStart => exact ⟨0, Nat.zero_le _, rfl, hid (fun _ => rfl), hid (World.ownsRow_nil _ _ _ _), hid (Below.refl _ _)⟩
  case round =>
    obtain ⟨k, hk, rfl, HV, HO, HB⟩ := hrel
    have hsz := HB.out.size
    by_cases hlt : k < n
    · have hlt' : (k : Int) < (n : Int) := by omega
      have hk0 : (0 : Int) ≤ (k : Int) := by omega
      have HBw := hid (HB0.out.trans (HB.out.mono HB0.out.size))
      have hrd := HR.out.below HBw.out (Nat.le_refl _)
      obtain ⟨b, off, rfl, hcell⟩ : ∃ b off, ad = some ⟨b, off, none⟩ ∧ ∀ i, i < n → wr.cell? ⟨b, off + i, none⟩ = some (.int .u8 (zs.getD i 0)) := by
        rcases hrd.cells with h0 | h1
        · omega
        · exact h1
      have hz := HBd.out k
      have HT := hid (hexB_take zs (k := k) (by omega))
      have hc := hcell k hlt
      obtain ⟨z, hzk⟩ : ∃ z, zs.getD k 0 = z := ⟨_, rfl⟩
      rw [hzk] at hz HT hc
      have HZk := hid hzk
      clear hzk
      obtain ⟨z1, hz1'⟩ : ∃ z1, z / 16 = z1 := ⟨_, rfl⟩
      obtain ⟨z2, hz2'⟩ : ∃ z2, z % 16 = z2 := ⟨_, rfl⟩
      rw [hz1', hz2'] at HT
      have y1 : 0 ≤ z1 ∧ z1 < 16 := by omega
      have y2 : 0 ≤ z2 ∧ z2 < 16 := by omega
      have c1 := HD.out z1 y1.1 y1.2 wr HB.out
      have y10 := y1.1
      have y11 := y1.2
      have y20 := y2.1
      have y21 := y2.2
      clear y1 y2
      have HA := hid (HO.out.alloc (.cells #[.int .u8 (hexD z1)] 5))
      have HBA := hid (HB.out.alloc hsz (.cells #[.int .u8 (hexD z1)] 5))
      have hsz2 := HBA.out.size
      have HCl := hid hcell
      clear hcell hrd
      go_wp2_with (at_builtin; refine wpList_append_own _ rfl _ _ 23 rfl U.heap.size 5 i0 (.int .u8 0) 1 1 Tryd.underlying23 hi hz0 hz1 hz2 rfl (by decide) _ _ _ rfl HA.out ⟨wr.heap.size, 0, none⟩ 1 1 [.int .u8 (hexD z1)] rfl rfl (cell_one_new _ _ _) ?a2 ?a3 ?a4 ?a5 ?_)
      case a2 => intro u hu; simp at hu; subst hu; rfl
      case a3 => unfold maxLen; omega
      case a4 => omega
      case a5 => first | omega | exact hsz2
      intro v1 w1 hown' hgrow _
      have b1 := HBA.out.grown hgrow hsz2 (fun j hj => (HO.out.lt j hj).1)
      have HB1 := hid b1
      have HO1 := hid hown'
      have hsz3 := b1.size
      have c2 := HD.out z2 y20 y21 w1 b1
      have HBx := hid (HB0.out.trans (b1.mono HB0.out.size))
      have hc1 : w1.cell? ⟨b, off + k, none⟩ = some (.int .u8 z) := by
        rcases (HR.out.below HBx.out (Nat.le_refl _)).cells with h0 | ⟨b', off', e, h1⟩
        · omega
        · cases e
          rw [← HZk.out]
          exact h1 k hlt
      have HA2 := hid (HO1.out.alloc (.cells #[.int .u8 (hexD z2)] 5))
      have HBA2 := hid (HB1.out.alloc hsz3 (.cells #[.int .u8 (hexD z2)] 5))
      have hsz4 := HBA2.out.size
      clear hown' hgrow b1 HA HBA hsz2 HO HB hc c1 HCl
      go_wp2_with (at_builtin; refine wpList_append_own _ rfl _ _ 23 rfl U.heap.size 5 i0 (.int .u8 0) 1 1 Tryd.underlying23 hi hz0 hz1 hz2 rfl (by decide) _ _ _ rfl HA2.out ⟨w1.heap.size, 0, none⟩ 1 1 [.int .u8 (hexD z2)] rfl rfl (cell_one_new _ _ _) ?b2 ?b3 ?b4 ?b5 ?_)
      case b2 => intro u hu; simp at hu; subst hu; rfl
      case b3 => unfold maxLen; omega
      case b4 => omega
      case b5 => first | omega | exact hsz4
      intro v2 w2 hown' hgrow _
      have HB2 := hid (HBA2.out.grown hgrow hsz4 (fun j hj => (HO1.out.lt j hj).1))
      have HO2 := hid (show w2.ownsRow U.heap.size 5 1 v2 (2 * (k + 1)) (bys (hexB (zs.take (k + 1)))) by
        have := hown'
        rw [show 2 * k + 1 + 1 = 2 * (k + 1) by omega] at this
        rw [HT.out, bys_append, bys_append, List.append_assoc]
        exact this)
      clear hown' hgrow HA2 HBA2 hsz4 HO1 HB1 c2 hc1
      go_wp2_with fail
      go_roundw
      case rel => exact ⟨k + 1, by omega, by go_num, hid (fun e => by omega), HO2, HB2⟩
      case measure => simp [intOf]; omega
    · have hlt' : ¬ (k : Int) < (n : Int) := by omega
      obtain rfl : k = n := by omega
      have HBf := hid (HB0.out.trans (HB.out.mono HB0.out.size))
      go_wp2_with fail
      go_ret
      refine ⟨_, rfl, ?_, HV.out, HBf.out⟩
      have := HO.out
      rw [List.take_of_length_le (by omega)] at this
      rw [hexB_len, hl]
      exact owns_lower this (by have := HZ0.out; have := HGd.out; omega)
end Go.Proofs.YtoppccfgcccijaaDoor
/- The specification's bytes out of pairs of hexadecimal digits. Conditions: at most 2^21 bytes. -/

namespace Go.Proofs.YtoppccfgcccijaaDoor
open Go.RowKit
set_option maxRecDepth 100000

def dv (c : Int) : Int := (unD c).getD 0
def prN (zs : List Int) (m : Nat) : List Int := (List.range m).map (fun j => dv (zs.getD (2 * j) 0) * 16 + dv (zs.getD (2 * j + 1) 0))
theorem prN_len (zs : List Int) (m : Nat) : (prN zs m).length = m := by simp [prN]
theorem prN_succ (zs : List Int) (m : Nat) : prN zs (m + 1) = prN zs m ++ [dv (zs.getD (2 * m) 0) * 16 + dv (zs.getD (2 * m + 1) 0)] := by simp [prN, List.range_succ]
/-- The digit that waits for its other half. -/
def hfN (zs : List Int) (k : Nat) : Int := if k % 2 = 1 then dv (zs.getD (k - 1) 0) else 0
theorem unD_bd {c d : Int} (h : unD c = some d) : 0 ≤ d ∧ d ≤ 15 := by
  unfold unD at h
  split at h
  · cases h; omega
  · split at h
    · cases h; omega
    · cases h
theorem dv_bd (c : Int) : 0 ≤ dv c ∧ dv c ≤ 15 := by
  unfold dv
  cases h : unD c with
  | none => simp
  | some d => exact unD_bd h
def allX (zs : List Int) : Bool := zs.all (fun c => (unD c).isSome)
theorem allX_no {zs : List Int} {k : Nat} (hk : k < zs.length) (h : unD (zs.getD k 0) = none) : allX zs = false := by
  unfold allX
  rw [List.all_eq_false]
  refine ⟨zs.getD k 0, ?_, by rw [h]; simp⟩
  rw [List.getD_eq_getElem?_getD, List.getElem?_eq_getElem hk]
  exact List.getElem_mem hk
theorem allX_yes {zs : List Int} (h : ∀ k, k < zs.length → (unD (zs.getD k 0)).isSome = true) : allX zs = true := by
  unfold allX
  rw [List.all_eq_true]
  intro c hc
  obtain ⟨i, hi, rfl⟩ := List.mem_iff_getElem.1 hc
  have := h i hi
  rwa [List.getD_eq_getElem?_getD, List.getElem?_eq_getElem hi] at this
/-- What l18unhex answers. -/
def unH (zs : List Int) : List Int × Bool := if allX zs = true then (prN zs (zs.length / 2), decide (zs.length % 2 = 0)) else ([], false)
set_option maxHeartbeats 6400000 in
theorem spec_l18unhex {ad : Option Addr} {n : Nat} (cap : Nat) {zs : List Int} {w : World} (h : Reads w ad n zs) (hn : n ≤ 2097152) :
    Calls Tryd.prog 35 #[.slice ad n cap] w fun e w' => ∃ v, e = .returned (.tuple #[v, .bool (unH zs).2]) ∧ w'.ownsRow w.heap.size 5 1 v (unH zs).1.length (bys (unH zs).1) ∧ Below w.heap.size w w' := by
  obtain ⟨i0, hi, hz0, hz1, hz2⟩ := info_parts Tryd.info5
  have HR := hid h
  have HBd := hid h.bd
  have HL := hid h.len
  clear h
  go_enter Tryd.func35, Tryd.ntmps35
  go_wp2_with fail
  go_loopw [4, 5, 6] (fun v hf s wr => ∃ k : Nat, k ≤ n ∧ s = .int .i64 (k : Int) ∧ hf = .int .i64 (hfN zs k) ∧ Hid (∀ j, j < k → (unD (zs.getD j 0)).isSome = true) ∧ Hid (wr.ownsRow w.heap.size 5 1 v (k / 2) (bys (prN zs (k / 2)))) ∧ Hid (Below w.heap.size w wr)) (fun _ _ s _ => n - (intOf s).toNat)
  case atStart => exact ⟨0, Nat.zero_le _, rfl, rfl, hid (fun j hj => by omega), hid (World.ownsRow_nil _ _ _ _), hid (Below.refl _ _)⟩
  case round =>
    obtain ⟨k, hk, rfl, rfl, HX, HO, HB⟩ := hrel
    have hsz := HB.out.size
    by_cases hlt : k < n
    · have hlt' : (k : Int) < (n : Int) := by omega
      have hk0 : (0 : Int) ≤ (k : Int) := by omega
      obtain ⟨b, off, rfl, hcell⟩ : ∃ b off, ad = some ⟨b, off, none⟩ ∧ ∀ i, i < n → wr.cell? ⟨b, off + i, none⟩ = some (.int .u8 (zs.getD i 0)) := by
        rcases (HR.out.below HB.out (Nat.le_refl _)).cells with h0 | h1
        · omega
        · exact h1
      have hz := HBd.out k
      have hc := hcell k hlt
      have HLk := hid (show k < zs.length by have := HL.out; omega)
      obtain ⟨z, hzk⟩ : ∃ z, zs.getD k 0 = z := ⟨_, rfl⟩
      rw [hzk] at hz hc
      have HZk := hid hzk
      obtain ⟨H, hH⟩ : ∃ H, hfN zs k = H := ⟨_, rfl⟩
      rw [hH]
      have hHb : 0 ≤ H ∧ H ≤ 15 := by
        rw [← hH]
        unfold hfN
        split
        · exact dv_bd _
        · omega
      have hH0 := hHb.1
      have hH1 := hHb.2
      have hzl := hz.1
      have hzu := hz.2
      have HHf := hid hH
      clear hzk hH hcell hHb hz
      by_cases h1 : 48 ≤ z
      · by_cases h2 : z ≤ 57
        · skip
          have hdv : unD z = some (z - 48) := by unfold unD; rw [if_pos (by omega)]
          have HSm := hid (show (unD (zs.getD k 0)).isSome = true by rw [HZk.out, hdv]; rfl)
          have HDv := hid (show dv (zs.getD k 0) = (z - 48) by rw [HZk.out]; unfold dv; rw [hdv]; rfl)
          clear hdv
          obtain ⟨dd, hdd⟩ : ∃ dd, z - 48 = dd := ⟨_, rfl⟩
          rw [hdd] at HDv
          have hd0 : 0 ≤ dd ∧ dd ≤ 15 := by omega
          have hwd : IntKind.i64.wrap dd = dd := by simp [IntKind.wrap, IntKind.bits, IntKind.signed]; omega
          have hwm : IntKind.i64.wrap (H * 16) = H * 16 := by simp [IntKind.wrap, IntKind.bits, IntKind.signed]; omega
          have hws : IntKind.i64.wrap (H * 16 + dd) = H * 16 + dd := by simp [IntKind.wrap, IntKind.bits, IntKind.signed]; omega
          have hwb : IntKind.u8.wrap (H * 16 + dd) = H * 16 + dd := by simp [IntKind.wrap, IntKind.bits, IntKind.signed]; omega
          by_cases hodd : k % 2 = 1
          · have hm : (k : Int) % 2 = 1 := by omega
            have HPr := hid (show prN zs ((k + 1) / 2) = prN zs (k / 2) ++ [H * 16 + dd] by
              rw [show (k + 1) / 2 = k / 2 + 1 by omega, prN_succ, show 2 * (k / 2) = k - 1 by omega, show k - 1 + 1 = k by omega, HDv.out, ← HHf.out]
              unfold hfN
              rw [if_pos hodd])
            have HHn := hid (show hfN zs (k + 1) = 0 by unfold hfN; rw [if_neg (by omega)])
            have HA := hid (HO.out.alloc (.cells #[.int .u8 (H * 16 + dd)] 5))
            have HBA := hid (HB.out.alloc hsz (.cells #[.int .u8 (H * 16 + dd)] 5))
            have hsz2 := HBA.out.size
            go_wp2_with (at_builtin; refine wpList_append_own _ rfl _ _ 23 rfl w.heap.size 5 i0 (.int .u8 0) 1 1 Tryd.underlying23 hi hz0 hz1 hz2 rfl (by decide) _ _ _ rfl HA.out ⟨wr.heap.size, 0, none⟩ 1 1 [.int .u8 (H * 16 + dd)] rfl rfl (cell_one_new _ _ _) ?a2 ?a3 ?a4 ?a5 ?_)
            case a2 => first | rfl | (intro u hu; simp at hu; subst hu; rfl)
            case a3 => unfold maxLen; omega
            case a4 => omega
            case a5 => first | omega | exact hsz2
            intro v1 w1 hown' hgrow _
            have HB1 := hid (HBA.out.grown hgrow hsz2 (fun j hj => (HO.out.lt j hj).1))
            have HO1 := hid (show w1.ownsRow w.heap.size 5 1 v1 ((k + 1) / 2) (bys (prN zs ((k + 1) / 2))) by
              rw [HPr.out, bys_append, show (k + 1) / 2 = k / 2 + 1 by omega]
              exact hown')
            clear hown' hgrow HA HBA hsz2 HO HB
            go_wp2_with fail
            go_roundw
            case rel => exact ⟨k + 1, by omega, by go_num, by rw [HHn.out], hid (fun j hj => by by_cases e : j = k; (rw [e]; exact HSm.out); exact HX.out j (by omega)), HO1, HB1⟩
            case measure => simp [intOf]; omega
          · have hm : ¬ (k : Int) % 2 = 1 := by omega
            have hH0' : H = 0 := by rw [← HHf.out]; unfold hfN; rw [if_neg hodd]
            subst hH0'
            have HHn := hid (show hfN zs (k + 1) = dd by unfold hfN; rw [if_pos (by omega), show k + 1 - 1 = k by omega, HDv.out])
            have HO1 := hid (show wr.ownsRow w.heap.size 5 1 _ ((k + 1) / 2) (bys (prN zs ((k + 1) / 2))) by rw [show (k + 1) / 2 = k / 2 by omega]; exact HO.out)
            go_wp2_with fail
            go_roundw
            case rel => exact ⟨k + 1, by omega, by go_num, by rw [HHn.out]; try (first | rfl | simp), hid (fun j hj => by by_cases e : j = k; (rw [e]; exact HSm.out); exact HX.out j (by omega)), HO1, HB⟩
            case measure => simp [intOf]; omega
        · by_cases h3 : 97 ≤ z
          · by_cases h4 : z ≤ 102
            · skip
              have hdv : unD z = some (z - 87) := by unfold unD; rw [if_neg (by omega), if_pos (by omega)]
              have HSm := hid (show (unD (zs.getD k 0)).isSome = true by rw [HZk.out, hdv]; rfl)
              have HDv := hid (show dv (zs.getD k 0) = (z - 87) by rw [HZk.out]; unfold dv; rw [hdv]; rfl)
              clear hdv
              obtain ⟨dd, hdd⟩ : ∃ dd, z - 87 = dd := ⟨_, rfl⟩
              rw [hdd] at HDv
              have hd0 : 0 ≤ dd ∧ dd ≤ 15 := by omega
              have hwd : IntKind.i64.wrap dd = dd := by simp [IntKind.wrap, IntKind.bits, IntKind.signed]; omega
              have hwm : IntKind.i64.wrap (H * 16) = H * 16 := by simp [IntKind.wrap, IntKind.bits, IntKind.signed]; omega
              have hws : IntKind.i64.wrap (H * 16 + dd) = H * 16 + dd := by simp [IntKind.wrap, IntKind.bits, IntKind.signed]; omega
              have hwb : IntKind.u8.wrap (H * 16 + dd) = H * 16 + dd := by simp [IntKind.wrap, IntKind.bits, IntKind.signed]; omega
              by_cases hodd : k % 2 = 1
              · have hm : (k : Int) % 2 = 1 := by omega
                have HPr := hid (show prN zs ((k + 1) / 2) = prN zs (k / 2) ++ [H * 16 + dd] by
                  rw [show (k + 1) / 2 = k / 2 + 1 by omega, prN_succ, show 2 * (k / 2) = k - 1 by omega, show k - 1 + 1 = k by omega, HDv.out, ← HHf.out]
                  unfold hfN
                  rw [if_pos hodd])
                have HHn := hid (show hfN zs (k + 1) = 0 by unfold hfN; rw [if_neg (by omega)])
                have HA := hid (HO.out.alloc (.cells #[.int .u8 (H * 16 + dd)] 5))
                have HBA := hid (HB.out.alloc hsz (.cells #[.int .u8 (H * 16 + dd)] 5))
                have hsz2 := HBA.out.size
                go_wp2_with (at_builtin; refine wpList_append_own _ rfl _ _ 23 rfl w.heap.size 5 i0 (.int .u8 0) 1 1 Tryd.underlying23 hi hz0 hz1 hz2 rfl (by decide) _ _ _ rfl HA.out ⟨wr.heap.size, 0, none⟩ 1 1 [.int .u8 (H * 16 + dd)] rfl rfl (cell_one_new _ _ _) ?a2 ?a3 ?a4 ?a5 ?_)
                case a2 => first | rfl | (intro u hu; simp at hu; subst hu; rfl)
                case a3 => unfold maxLen; omega
                case a4 => omega
                case a5 => first | omega | exact hsz2
                intro v1 w1 hown' hgrow _
                have HB1 := hid (HBA.out.grown hgrow hsz2 (fun j hj => (HO.out.lt j hj).1))
                have HO1 := hid (show w1.ownsRow w.heap.size 5 1 v1 ((k + 1) / 2) (bys (prN zs ((k + 1) / 2))) by
                  rw [HPr.out, bys_append, show (k + 1) / 2 = k / 2 + 1 by omega]
                  exact hown')
                clear hown' hgrow HA HBA hsz2 HO HB
                go_wp2_with fail
                go_roundw
                case rel => exact ⟨k + 1, by omega, by go_num, by rw [HHn.out], hid (fun j hj => by by_cases e : j = k; (rw [e]; exact HSm.out); exact HX.out j (by omega)), HO1, HB1⟩
                case measure => simp [intOf]; omega
              · have hm : ¬ (k : Int) % 2 = 1 := by omega
                have hH0' : H = 0 := by rw [← HHf.out]; unfold hfN; rw [if_neg hodd]
                subst hH0'
                have HHn := hid (show hfN zs (k + 1) = dd by unfold hfN; rw [if_pos (by omega), show k + 1 - 1 = k by omega, HDv.out])
                have HO1 := hid (show wr.ownsRow w.heap.size 5 1 _ ((k + 1) / 2) (bys (prN zs ((k + 1) / 2))) by rw [show (k + 1) / 2 = k / 2 by omega]; exact HO.out)
                go_wp2_with fail
                go_roundw
                case rel => exact ⟨k + 1, by omega, by go_num, by rw [HHn.out]; try (first | rfl | simp), hid (fun j hj => by by_cases e : j = k; (rw [e]; exact HSm.out); exact HX.out j (by omega)), HO1, HB⟩
                case measure => simp [intOf]; omega
            · skip
              have HNo := hid (allX_no HLk.out (by rw [HZk.out]; unfold unD; rw [if_neg (by omega), if_neg (by omega)]))
              go_wp2_with fail
              go_ret2
              refine ⟨.slice none 0 0, by rw [show unH zs = ([], false) by unfold unH; rw [HNo.out]; rfl]; rfl, ?_, HB.out⟩
              rw [show unH zs = ([], false) by unfold unH; rw [HNo.out]; rfl]
              exact World.ownsRow_nil _ _ _ _
          · skip
            have HNo := hid (allX_no HLk.out (by rw [HZk.out]; unfold unD; rw [if_neg (by omega), if_neg (by omega)]))
            go_wp2_with fail
            go_ret2
            refine ⟨.slice none 0 0, by rw [show unH zs = ([], false) by unfold unH; rw [HNo.out]; rfl]; rfl, ?_, HB.out⟩
            rw [show unH zs = ([], false) by unfold unH; rw [HNo.out]; rfl]
            exact World.ownsRow_nil _ _ _ _
      · skip
        have h3 : ¬ 97 ≤ z := by omega
        have HNo := hid (allX_no HLk.out (by rw [HZk.out]; unfold unD; rw [if_neg (by omega), if_neg (by omega)]))
        go_wp2_with fail
        go_ret2
        refine ⟨.slice none 0 0, by rw [show unH zs = ([], false) by unfold unH; rw [HNo.out]; rfl]; rfl, ?_, HB.out⟩
        rw [show unH zs = ([], false) by unfold unH; rw [HNo.out]; rfl]
        exact World.ownsRow_nil _ _ _ _
    · have hlt' : ¬ (k : Int) < (n : Int) := by omega
      obtain rfl : k = n := by omega
      have HAll := hid (allX_yes (zs := zs) (fun j hj => HX.out j (by have := HL.out; omega)))
      have HU := hid (show unH zs = (prN zs (k / 2), decide (k % 2 = 0)) by unfold unH; rw [HAll.out, if_pos rfl, HL.out])
      have hdm : decide (k % 2 = 0) = ((k : Int) % 2 == 0) := by by_cases e : k % 2 = 0; (rw [decide_eq_true e, show (k : Int) % 2 = 0 by omega]; rfl); (rw [decide_eq_false e, show (k : Int) % 2 = 1 by omega]; rfl)
      have HDm := hid hdm
      clear hdm
      go_wp2_with fail
      go_ret2
      refine ⟨_, by rw [HU.out, HDm.out]; rfl, ?_, HB.out⟩
      rw [HU.out]
      have := HO.out
      rw [prN_len]
      exact this
end Go.Proofs.YtoppccfgcccijaaDoor
/- Bytes as strings: what the conversion gives. No conditions. -/



namespace Go.Proofs.YtoppccfgcccijaaDoor
open Go.RowKit

/-- The string of these bytes. -/
def str (zs : List Int) : ByteArray := ⟨(zs.map fun n => UInt8.ofNat n.toNat).toArray⟩
/-- A slice of bytes as a string. -/
theorem Reads.str {w : World} {ad : Option Addr} {n : Nat} {zs : List Int} (h : Reads w ad n zs) (cap : Nat) (src : TypeId) (hs : Tryd.prog.underlying src = some (.slice 5)) (he : Tryd.prog.underlying 5 = some (.int .u8)) (hd : Tryd.prog.underlying 9 = some .string) :
    (convert src 9 (.slice ad n cap)).run Tryd.prog w = .ok (.string (str zs)) w := by
  have hl := h.len
  rcases h.cells with h0 | ⟨b, off, rfl, hc⟩
  · subst h0
    have hz : zs = [] := List.length_eq_zero_iff.1 hl
    subst hz
    cases ad with
    | none => exact run_convert_bytes_nil w src 5 hs he 0 cap 9 hd
    | some a =>
      rw [run_convert_bytes_string w src 9 5 _ 0 cap hs he hd, run_bytesToString w a 0 cap [] (by simp [loadCells, loadCellsFrom])]
      rfl
  · exact run_convert_bytes_arg w src 5 hs he b off n cap zs hl hc 9 hd
end Go.Proofs.YtoppccfgcccijaaDoor
/- A region that draws its order, one of whose operations (number L, a store) waits for all that read: a condition on the world that is shown behind every operation but that one. No statement of its own; no conditions. -/

namespace Go.Proofs.YtoppccfgcccijaaDoor
open Go

/-- Operation L waits for operation i. -/
def waitsFor (md : Region.Mode) (ops : Array Oper) (L i : Nat) : Bool :=
  match ops[L]? with
  | some o => o.after.any fun e => Region.binds md e && e.on == i
  | none => false

section
variable {P : Program} {ops : Array Oper} {Q : Exit → Act → World → Prop} {md : Region.Mode} {S : World → Prop} {L : Nat}

/-- Whatever order is picked, S holding behind every operation but L. -/
def anyK (P : Program) (md : Region.Mode) (ops : Array Oper) (Q : Exit → Act → World → Prop) (S : World → Prop) (L : Nat) : Nat → Array Bool → Act → World → Prop
  | 0, listed, a, w => Region.ready md ops listed = [] ∧ Q .normal a w
  | n + 1, listed, a, w => (Region.ready md ops listed = [] → Q .normal a w) ∧
      ∀ i ∈ Region.ready md ops listed, wpOp P ops Q i (fun a' w' => (i = L ∨ S w') ∧ anyK P md ops Q S L n (listed.setIfInBounds i true) a' w') a w

theorem anyK_any : ∀ (n : Nat) (listed : Array Bool) (a : Act) (w : World), anyK P md ops Q S L n listed a w → wpAny P md ops Q n listed a w
  | 0, _, _, _, h => h
  | n + 1, _, _, _, h => ⟨h.1, fun i hi => wpOp_mono (fun a' w' k => anyK_any n _ a' w' k.2) (h.2 i hi)⟩

theorem anyK_first {i : Nat} {oi : Oper} {v : Value} (hi : ops[i]? = some oi) (hsel : ∀ (j : Nat) (o : Oper) cs b, ops[j]? = some o → o.op ≠ .select cs b)
    (hQ : ∀ c a w, Q (.panic c) (a.put oi.dst v) w → Q (.panic c) a w) (hL : waitsFor md ops L i = true) (n : Nat) : ∀ (listed : Array Bool) (a : Act) (w : World),
      (∀ j oj, ops[j]? = some oj → j ≠ i → listed.getD j true = false → (∀ e ∈ oj.after, Region.binds md e = true → e.on ≠ i) → oi.apart ops oj = true) →
      i ∈ Region.ready md ops listed → YieldsIf P ops S oi v a → S w →
      anyK P md ops Q S L n (listed.setIfInBounds i true) (a.put oi.dst v) w → anyK P md ops Q S L (n + 1) listed a w := by
  induction n with
  | zero =>
    intro listed a w _ hr hy hS H
    refine ⟨fun e => absurd hr (by rw [e]; simp), fun j hj => ?_⟩
    rcases Nat.decEq j i with hne | heq
    · have hm := ready_mono hj hne
      rw [H.1] at hm
      cases hm
    · subst heq
      exact hy.wpOp hi hS ⟨.inr hS, H⟩
  | succ n ih =>
    intro listed a w hfree hr hy hS H
    refine ⟨fun e => absurd hr (by rw [e]; simp), fun j hj => ?_⟩
    rcases Nat.decEq j i with hne | heq
    · obtain ⟨hju, oj, hoj, hall⟩ := mem_ready.1 hj
      have hunl := (mem_ready.1 hr).1
      have hno : ∀ e ∈ oj.after, Region.binds md e = true → e.on ≠ i := by
        intro e he hb heq
        have h1 := hall e he hb
        rw [heq] at h1
        by_cases hsz : i < listed.size
        · simp [hsz] at hunl h1
          rw [hunl] at h1
          cases h1
        · simp [Array.getElem?_eq_none (Nat.le_of_not_lt hsz)] at h1
      have hjL : j ≠ L := by
        intro e
        subst e
        simp only [waitsFor, hoj] at hL
        obtain ⟨e, he, hb⟩ := Array.any_eq_true'.1 hL
        simp only [Bool.and_eq_true, beq_iff_eq] at hb
        exact hno e he hb.1 hb.2
      have step := wpOp_putIf hoj (hfree j oj hoj hne hju hno) (fun cs b => hsel i oi cs b hi) (fun cs b => hsel j oj cs b hoj) hQ hy (H.2 j (ready_mono hj hne))
      refine wpOp_mono (fun a' w' k => ?_) step
      obtain ⟨k1, k2, k3⟩ := k
      rcases k2 with k2 | k2
      · exact absurd k2 hjL
      · refine ⟨.inr k2, ih (listed.setIfInBounds j true) a' w' ?_ (ready_mono hr (fun e => hne e.symm)) k1 k2 ?_⟩
        · intro q oq hq hqi hun hnq
          refine hfree q oq hq hqi ?_ hnq
          by_cases hjq : j = q
          · subst hjq; exact hju
          · rw [getD_set_ne true hjq] at hun; exact hun
        · rw [Array.setIfInBounds_comm _ _ hne]
          exact k3
    · subst heq
      exact hy.wpOp hi hS ⟨.inr hS, H⟩

/-- Number i, which only reads what S tells, is taken first. -/
theorem anyK_take {i : Nat} {oi : Oper} {v : Value} {n : Nat} {listed : Array Bool} {a : Act} {w : World} (hi : ops[i]? = some oi) (hs : Region.noSelect ops = true) (hf : Region.free md ops listed i = true) (hr : (Region.ready md ops listed).contains i = true) (hL : waitsFor md ops L i = true)
    (hQ : ∀ c a w, Q (.panic c) (a.put oi.dst v) w → Q (.panic c) a w) (hw : Region.wanted oi (yielded ops a.tmps) = true) (hS : S w) (hy : ∀ w, S w → (execOp a.eval oi).run P w = .ok (.value v) w) (d : Option Tmp) (hd : oi.dst = d)
    (h : anyK P md ops Q S L n (listed.setIfInBounds i true) (a.put d v) w) : anyK P md ops Q S L (n + 1) listed a w :=
  anyK_first hi (Region.noSelect_spec hs) hQ hL n listed a w (Region.free_spec hi hf) (by simpa using hr) (.inl ⟨hw, hy⟩) hS (by rw [hd]; exact h)

/-- Number i alone may come up: behind it S is shown anew. -/
theorem anyK_step {i : Nat} {o : Oper} {n : Nat} {listed : Array Bool} {a : Act} {w : World} (hr : Region.ready md ops listed = [i]) (ho : ops[i]? = some o)
    (h : ∀ K : Act → World → Prop, Shut (∀ a w, S w → (S w → anyK P md ops Q S L n (listed.setIfInBounds i true) a w) → K a w) → if Region.wanted o (yielded ops a.tmps) = true then Oper.wp P o a w K Q else K (a.put o.dst undef) w) : anyK P md ops Q S L (n + 1) listed a w := by
  refine ⟨fun e => absurd e (by rw [hr]; simp), fun j hj => ?_⟩
  rw [hr] at hj
  obtain rfl := List.mem_singleton.1 hj
  exact wpOp_step ho (fun K hK => h K (fun a w hS hW => hK a w ⟨.inr hS, hW hS⟩))

/-- L alone may come up. -/
theorem anyK_last {o : Oper} {n : Nat} {listed : Array Bool} {a : Act} {w : World} (hr : Region.ready md ops listed = [L]) (ho : ops[L]? = some o)
    (h : ∀ K : Act → World → Prop, Shut (∀ a w, anyK P md ops Q S L n (listed.setIfInBounds L true) a w → K a w) → if Region.wanted o (yielded ops a.tmps) = true then Oper.wp P o a w K Q else K (a.put o.dst undef) w) : anyK P md ops Q S L (n + 1) listed a w := by
  refine ⟨fun e => absurd e (by rw [hr]; simp), fun j hj => ?_⟩
  rw [hr] at hj
  obtain rfl := List.mem_singleton.1 hj
  exact wpOp_step ho (fun K hK => h K (fun a w hW => hK a w ⟨.inl rfl, hW⟩))

theorem anyK_done {listed : Array Bool} {a : Act} {w : World} (hr : Region.ready md ops listed = []) (h : Q .normal a w) : ∀ n, anyK P md ops Q S L n listed a w
  | 0 => ⟨hr, h⟩
  | _ + 1 => ⟨fun _ => h, by rw [hr]; simp⟩

/-- The beginning. -/
theorem region_K {id : Nat} {a : Act} {w : World} (L : Nat) (S : World → Prop) (hm : P.follows .mixedOrders = true) (hS : S w.drew)
    (h : S w.drew → anyK P .any ops Q S L ops.size (Array.replicate ops.size false) a w.drew) : (Code.region id ops true).wp P Q a w :=
  wp_region_any hm (anyK_any _ _ _ _ (h hS))
end
end Go.Proofs.YtoppccfgcccijaaDoor
/- A region that draws its order and writes nothing: what reads is taken first. No statement of its own; no conditions. -/

namespace Go.Proofs.YtoppccfgcccijaaDoor
open Go

section
variable {P : Program} {ops : Array Oper} {Q : Exit → Act → World → Prop} {md : Region.Mode} {S : World → Prop} {L : Nat}
theorem anyK_first2 {i : Nat} {oi : Oper} {v : Value} (hi : ops[i]? = some oi) (hsel : ∀ (j : Nat) (o : Oper) cs b, ops[j]? = some o → o.op ≠ .select cs b)
    (hQ : ∀ c a w, Q (.panic c) (a.put oi.dst v) w → Q (.panic c) a w) (hL : ops[L]? = none) (n : Nat) : ∀ (listed : Array Bool) (a : Act) (w : World),
      (∀ j oj, ops[j]? = some oj → j ≠ i → listed.getD j true = false → (∀ e ∈ oj.after, Region.binds md e = true → e.on ≠ i) → oi.apart ops oj = true) →
      i ∈ Region.ready md ops listed → YieldsIf P ops S oi v a → S w →
      anyK P md ops Q S L n (listed.setIfInBounds i true) (a.put oi.dst v) w → anyK P md ops Q S L (n + 1) listed a w := by
  induction n with
  | zero =>
    intro listed a w _ hr hy hS H
    refine ⟨fun e => absurd hr (by rw [e]; simp), fun j hj => ?_⟩
    rcases Nat.decEq j i with hne | heq
    · have hm := ready_mono hj hne
      rw [H.1] at hm
      cases hm
    · subst heq
      exact hy.wpOp hi hS ⟨.inr hS, H⟩
  | succ n ih =>
    intro listed a w hfree hr hy hS H
    refine ⟨fun e => absurd hr (by rw [e]; simp), fun j hj => ?_⟩
    rcases Nat.decEq j i with hne | heq
    · obtain ⟨hju, oj, hoj, hall⟩ := mem_ready.1 hj
      have hunl := (mem_ready.1 hr).1
      have hno : ∀ e ∈ oj.after, Region.binds md e = true → e.on ≠ i := by
        intro e he hb heq
        have h1 := hall e he hb
        rw [heq] at h1
        by_cases hsz : i < listed.size
        · simp [hsz] at hunl h1
          rw [hunl] at h1
          cases h1
        · simp [Array.getElem?_eq_none (Nat.le_of_not_lt hsz)] at h1
      have hjL : j ≠ L := by
        intro e
        subst e
        rw [hL] at hoj
        cases hoj
      have step := wpOp_putIf hoj (hfree j oj hoj hne hju hno) (fun cs b => hsel i oi cs b hi) (fun cs b => hsel j oj cs b hoj) hQ hy (H.2 j (ready_mono hj hne))
      refine wpOp_mono (fun a' w' k => ?_) step
      obtain ⟨k1, k2, k3⟩ := k
      rcases k2 with k2 | k2
      · exact absurd k2 hjL
      · refine ⟨.inr k2, ih (listed.setIfInBounds j true) a' w' ?_ (ready_mono hr (fun e => hne e.symm)) k1 k2 ?_⟩
        · intro q oq hq hqi hun hnq
          refine hfree q oq hq hqi ?_ hnq
          by_cases hjq : j = q
          · subst hjq; exact hju
          · rw [getD_set_ne true hjq] at hun; exact hun
        · rw [Array.setIfInBounds_comm _ _ hne]
          exact k3
    · subst heq
      exact hy.wpOp hi hS ⟨.inr hS, H⟩

/-- Number i, which only reads what S tells, is taken first. -/
theorem anyK_take2 {i : Nat} {oi : Oper} {v : Value} {n : Nat} {listed : Array Bool} {a : Act} {w : World} (hi : ops[i]? = some oi) (hs : Region.noSelect ops = true) (hf : Region.free md ops listed i = true) (hr : (Region.ready md ops listed).contains i = true) (hL : ops[L]? = none)
    (hQ : ∀ c a w, Q (.panic c) (a.put oi.dst v) w → Q (.panic c) a w) (hw : Region.wanted oi (yielded ops a.tmps) = true) (hS : S w) (hy : ∀ w, S w → (execOp a.eval oi).run P w = .ok (.value v) w) (d : Option Tmp) (hd : oi.dst = d)
    (h : anyK P md ops Q S L n (listed.setIfInBounds i true) (a.put d v) w) : anyK P md ops Q S L (n + 1) listed a w :=
  anyK_first2 hi (Region.noSelect_spec hs) hQ hL n listed a w (Region.free_spec hi hf) (by simpa using hr) (.inl ⟨hw, hy⟩) hS (by rw [hd]; exact h)

end
theorem anyK_two {P : Program} {ops : Array Oper} {Q : Exit → Act → World → Prop} {md : Region.Mode} {S : World → Prop} {L i j : Nat} {oi oj : Oper} {n : Nat} {listed : Array Bool} {a : Act} {w : World} (hr : Region.ready md ops listed = [i, j]) (hoi : ops[i]? = some oi) (hoj : ops[j]? = some oj)
    (hi : ∀ K : Act → World → Prop, Shut (∀ a w, S w → (S w → anyK P md ops Q S L n (listed.setIfInBounds i true) a w) → K a w) → if Region.wanted oi (yielded ops a.tmps) = true then Oper.wp P oi a w K Q else K (a.put oi.dst undef) w)
    (hj : ∀ K : Act → World → Prop, Shut (∀ a w, S w → (S w → anyK P md ops Q S L n (listed.setIfInBounds j true) a w) → K a w) → if Region.wanted oj (yielded ops a.tmps) = true then Oper.wp P oj a w K Q else K (a.put oj.dst undef) w) : anyK P md ops Q S L (n + 1) listed a w := by
  refine ⟨fun e => absurd e (by rw [hr]; simp), fun q hq => ?_⟩
  rw [hr] at hq
  rcases List.mem_cons.1 hq with rfl | hq
  · exact wpOp_step hoi (fun K hK => hi K (fun a w hS hW => hK a w ⟨.inr hS, hW hS⟩))
  · obtain rfl := List.mem_singleton.1 hq
    exact wpOp_step hoj (fun K hK => hj K (fun a w hS hW => hK a w ⟨.inr hS, hW hS⟩))
end Go.Proofs.YtoppccfgcccijaaDoor
/- A region that draws its order: what stands may become more on the way; what is not wanted is passed by. No statement of its own; no conditions. -/

namespace Go.Proofs.YtoppccfgcccijaaDoor
open Go

section
variable {P : Program} {ops : Array Oper} {Q : Exit → Act → World → Prop} {md : Region.Mode} {S S' : World → Prop} {L : Nat}
theorem anyK_imp (hS : ∀ w, S' w → S w) : ∀ (n : Nat) (listed : Array Bool) (a : Act) (w : World), anyK P md ops Q S' L n listed a w → anyK P md ops Q S L n listed a w
  | 0, _, _, _, h => h
  | n + 1, _, _, _, h => ⟨h.1, fun i hi => wpOp_mono (fun a' w' k => ⟨k.1.imp id (hS _), anyK_imp hS n _ a' w' k.2⟩) (h.2 i hi)⟩
/-- More stands from here on. -/
theorem anyK_more {n : Nat} {listed : Array Bool} {a : Act} {w : World} (S' : World → Prop) (hS : ∀ w, S' w → S w) (h0 : S' w) (h : S' w → anyK P md ops Q S' L n listed a w) : anyK P md ops Q S L n listed a w := anyK_imp hS n listed a w (h h0)
/-- Number i, which is not wanted, is passed by. -/
theorem anyK_skip {i : Nat} {oi : Oper} {n : Nat} {listed : Array Bool} {a : Act} {w : World} (hi : ops[i]? = some oi) (hs : Region.noSelect ops = true) (hf : Region.free md ops listed i = true) (hr : (Region.ready md ops listed).contains i = true) (hL : ops[L]? = none)
    (hQ : ∀ c a w, Q (.panic c) (a.put oi.dst undef) w → Q (.panic c) a w) (hw : Region.wanted oi (yielded ops a.tmps) = false) (hS : S w) (d : Option Tmp) (hd : oi.dst = d)
    (h : anyK P md ops Q S L n (listed.setIfInBounds i true) (a.put d undef) w) : anyK P md ops Q S L (n + 1) listed a w :=
  anyK_first2 hi (Region.noSelect_spec hs) hQ hL n listed a w (Region.free_spec hi hf) (by simpa using hr) (.inr ⟨hw, rfl⟩) hS (by rw [hd]; exact h)
end
end Go.Proofs.YtoppccfgcccijaaDoor
/- The specification's number out of decimal digits. Conditions: at most 2^21 bytes. -/




namespace Go.Proofs.YtoppccfgcccijaaDoor
open Go.RowKit
set_option maxRecDepth 100000

theorem lowD_len2 : ∀ (f m n : Nat), 1 ≤ m → n < 10 ^ m → (lowD f n).length ≤ m
  | 0, m, n, hm, _ => by simp [lowD]; exact hm
  | f + 1, m, n, hm, h => by
    by_cases hn : 9 < n
    · cases m with
      | zero => omega
      | succ m =>
        rw [lowD_big hn, List.length_cons]
        cases m with
        | zero => simp at h; omega
        | succ m =>
          have := lowD_len2 f (m + 1) (n / 10) (by omega) (by rw [Nat.pow_succ] at h; omega)
          omega
    · rw [lowD_one hn]; simpa using hm
theorem decI_len20 {n : Int} (h : -9223372036854775808 ≤ n ∧ n ≤ 9223372036854775807) : (decI n).length ≤ 20 := by
  unfold decI
  split
  · rw [List.length_cons]
    unfold decN
    rw [List.length_reverse]
    have := lowD_len2 20 19 (-n).toNat (by omega) (by omega)
    omega
  · unfold decN
    rw [List.length_reverse]
    have := lowD_len2 20 19 n.toNat (by omega) (by omega)
    omega
/-- The digits' value, as the specification adds it up. -/
def valU (L : List Int) : Int := L.foldl (fun a z => (a * 10 % 18446744073709551616 + (z - 48)) % 18446744073709551616) 0
theorem valU_app (L : List Int) (z : Int) : valU (L ++ [z]) = (valU L * 10 % 18446744073709551616 + (z - 48)) % 18446744073709551616 := by unfold valU; rw [List.foldl_append]; rfl
theorem valU_bd (L : List Int) : 0 ≤ valU L ∧ valU L < 18446744073709551616 := by
  unfold valU
  rcases List.eq_nil_or_concat L with rfl | ⟨L', z, rfl⟩
  · simp
  · rw [List.concat_eq_append, List.foldl_append]; simp only [List.foldl_cons, List.foldl_nil]; omega
theorem valU_low : ∀ (f n : Nat), n < 18446744073709551616 → valU (lowD f n).reverse = n
  | 0, n, h => by simp [lowD, valU]; omega
  | f + 1, n, h => by
    by_cases hn : 9 < n
    · rw [lowD_big hn, List.reverse_cons, valU_app, valU_low f (n / 10) (by omega)]; omega
    · rw [lowD_one hn]; simp [valU]; omega
theorem valU_dec {n : Nat} (h : n ≤ 9223372036854775808) : valU (decN n) = n := valU_low 20 n (by omega)
theorem decI_neg {y : Int} (h : -9223372036854775808 ≤ y ∧ y ≤ 9223372036854775807) {zs : List Int} (e : decI y = zs) (hz : zs.getD 0 0 = 45) : y < 0 ∧ zs.drop 1 = decN (-y).toNat := by
  unfold decI at e
  split at e
  · subst e; exact ⟨by assumption, rfl⟩
  · exfalso
    subst e
    have hl := (decN_len y.toNat).1
    have := decN_bd (n := y.toNat) (by omega) ((decN y.toNat).getD 0 0) (by rw [List.getD_eq_getElem?_getD, List.getElem?_eq_getElem hl]; exact List.getElem_mem _)
    omega
theorem decI_pos {y : Int} {zs : List Int} (e : decI y = zs) (hz : zs.getD 0 0 ≠ 45) : 0 ≤ y ∧ zs = decN y.toNat := by
  unfold decI at e
  split at e
  · subst e; exact absurd rfl hz
  · subst e; exact ⟨by omega, rfl⟩
/-- A number that is told where it is no digits' one. -/
def Tells (zs : List Int) (x : Int) : Prop := ∀ y, -9223372036854775808 ≤ y ∧ y ≤ 9223372036854775807 → decI y = zs → x = y
theorem tells_len {zs : List Int} (h : zs.length = 0 ∨ 20 < zs.length) (x : Int) : Tells zs x := fun y hy e => by
  have h1 := (decI_len y).1
  have h2 := decI_len20 hy
  rw [e] at h1 h2
  omega
theorem tells_bad {zs : List Int} {k : Nat} (hk : k < zs.length) (hz : ¬ (48 ≤ zs.getD k 0 ∧ zs.getD k 0 ≤ 57)) (hz2 : zs.getD k 0 ≠ 45 ∨ (0 < k)) (x : Int) : Tells zs x := fun y hy e => by
  by_cases h45 : zs.getD 0 0 = 45
  · obtain ⟨_, e2⟩ := decI_neg hy e h45
    by_cases hk0 : 0 < k
    · have hm := decN_bd (n := (-y).toNat) (by omega) (zs.getD k 0) (by
        rw [← e2]
        rw [List.getD_eq_getElem?_getD, List.getElem?_eq_getElem hk]
        exact List.mem_iff_getElem.2 ⟨k - 1, by rw [List.length_drop]; omega, by rw [List.getElem_drop]; congr 1; omega⟩)
      omega
    · rcases hz2 with q | q
      · obtain rfl : k = 0 := by omega
        exact absurd h45 q
      · omega
  · obtain ⟨_, e2⟩ := decI_pos e h45
    have hm := decN_bd (n := y.toNat) (by omega) (zs.getD k 0) (by
      rw [← e2, List.getD_eq_getElem?_getD, List.getElem?_eq_getElem hk]
      exact List.getElem_mem hk)
    omega
theorem tells_one {zs : List Int} (hl : zs.length = 1) (hz : zs.getD 0 0 = 45) (x : Int) : Tells zs x := fun y hy e => by
  obtain ⟨_, e2⟩ := decI_neg hy e hz
  have := (decN_len (-y).toNat).1
  rw [← e2, List.length_drop] at this
  omega
theorem tells_neg {zs : List Int} (hz : zs.getD 0 0 = 45) : Tells zs (IntKind.i64.wrap (IntKind.u64.wrap (-(valU (zs.drop 1))))) := fun y hy e => by
  obtain ⟨h0, e2⟩ := decI_neg hy e hz
  rw [e2, valU_dec (by omega)]
  simp [IntKind.wrap, IntKind.bits, IntKind.signed]
  omega
theorem tells_pos {zs : List Int} (hz : zs.getD 0 0 ≠ 45) : Tells zs (IntKind.i64.wrap (valU zs)) := fun y hy e => by
  obtain ⟨h0, e2⟩ := decI_pos e hz
  rw [e2, valU_dec (by omega)]
  simp [IntKind.wrap, IntKind.bits, IntKind.signed]
  omega
theorem wrap_bd (v : Int) : -9223372036854775808 ≤ IntKind.i64.wrap v ∧ IntKind.i64.wrap v ≤ 9223372036854775807 := by
  simp [IntKind.wrap, IntKind.bits, IntKind.signed]; omega
theorem take_drop_step (zs : List Int) {A k : Nat} (hA : A ≤ k) (hk : k < zs.length) : (zs.take (k + 1)).drop A = (zs.take k).drop A ++ [zs.getD k 0] := by
  rw [List.take_succ_eq_append_getElem hk, List.drop_append_of_le_length (by rw [List.length_take]; omega)]
  simp [List.getD, hk]
theorem decI_byte {n : Int} (h : -9223372036854775808 ≤ n ∧ n ≤ 9223372036854775807) (i : Nat) : 0 ≤ (decI n).getD i 0 ∧ (decI n).getD i 0 ≤ 255 := by
  by_cases hi : i < (decI n).length
  · have := decI_bd h ((decI n).getD i 0) (by rw [List.getD_eq_getElem?_getD, List.getElem?_eq_getElem hi]; exact List.getElem_mem hi)
    omega
  · rw [show (decI n).getD i 0 = 0 by simp [List.getD, List.getElem?_eq_none (Nat.le_of_not_lt hi)]]; omega
/-- A number and a flag are answered. -/
def RetIB (e : Ending) (x : Int) : Prop := ∃ f : Bool, e = .returned (.tuple #[.int .i64 x, .bool f])
set_option maxHeartbeats 12800000 in
theorem spec_l18number {ad : Option Addr} {n : Nat} (cap : Nat) {zs : List Int} {w : World} (h : Reads w ad n zs) (hn : n ≤ 2097152) :
    Calls Tryd.prog 34 #[.slice ad n cap] w fun e w' => ∃ x : Int, (-9223372036854775808 ≤ x ∧ x ≤ 9223372036854775807) ∧ RetIB e x ∧ Tells zs x ∧ Below w.heap.size w w' := by
  have HR := hid h
  have HBd := hid h.bd
  have HL := hid h.len
  have HB0 := hid (Below.refl w.heap.size w)
  clear h
  go_enter Tryd.func34, Tryd.ntmps34
  by_cases hn0 : n = 0
  · subst hn0
    have hd1 : decide ((0 : Int) < ((0 : Nat) : Int)) = false := by decide
    go_wp2_with fail
    go_ret2
    exact ⟨0, by omega, ⟨false, rfl⟩, tells_len (.inl HL.out) 0, HB0.out⟩
  obtain ⟨b, off, rfl, hcell⟩ : ∃ b off, ad = some ⟨b, off, none⟩ ∧ ∀ i, i < n → w.cell? ⟨b, off + i, none⟩ = some (.int .u8 (zs.getD i 0)) := by
    rcases HR.out.cells with h0 | h1
    · exact absurd h0 hn0
    · exact h1
  have HC := hid hcell
  have c0 := hcell 0 (by omega)
  have hp : (0 : Int) < (n : Int) := by omega
  have hpb : decide ((0 : Int) < (n : Int)) = true := decide_eq_true hp
  have hz0 := HBd.out 0
  rw [Nat.add_zero] at c0
  clear hcell
  by_cases hz : zs.getD 0 0 = 45
  · have HZ0 := hid hz
    rw [hz] at c0 hz0
    by_cases h1 : n = 1
    · subst h1
      go_wp2_with fail
      go_ret2
      exact ⟨0, by omega, ⟨false, rfl⟩, tells_one HL.out HZ0.out 0, HB0.out⟩
    have h1' : ¬ (n : Int) = 1 := by omega
    by_cases h20 : 20 < n
    · have h20' : (20 : Int) < (n : Int) := by omega
      go_wp2_with fail
      go_ret2
      exact ⟨0, by omega, ⟨false, rfl⟩, tells_len (.inr (by have := HL.out; omega)) 0, HB0.out⟩
    have h20' : ¬ (20 : Int) < (n : Int) := by omega
    go_wp2_with fail
    go_loopw [5, 6] (fun v s wr => ∃ k : Nat, 1 ≤ k ∧ k ≤ n ∧ s = .int .i64 (k : Int) ∧ v = .int .u64 (valU ((zs.take k).drop 1)) ∧ Hid (Below w.heap.size w wr)) (fun _ s _ => n - (intOf s).toNat)
    case atStart => exact ⟨1, Nat.le_refl _, by omega, rfl, by rw [List.drop_of_length_le (by rw [List.length_take]; omega)]; rfl, HB0⟩
    case round =>
      obtain ⟨k, hkA, hk, rfl, rfl, HB⟩ := hrel
      by_cases hlt : k < n
      · have hlt' : (k : Int) < (n : Int) := by omega
        have hk0 : (0 : Int) ≤ (k : Int) := by omega
        have HLk := hid (show k < zs.length by have := HL.out; omega)
        have hc : wr.cell? ⟨b, off + k, none⟩ = some (.int .u8 (zs.getD k 0)) := (HB.out.cell (World.block_lt_of_cell? w _ (HC.out k hlt))).trans (HC.out k hlt)
        have hz := HBd.out k
        have HT := hid (take_drop_step zs (A := 1) hkA HLk.out)
        obtain ⟨z, hzk⟩ : ∃ z, zs.getD k 0 = z := ⟨_, rfl⟩
        rw [hzk] at hz hc HT
        have HZk := hid hzk
        obtain ⟨V, hV⟩ : ∃ V, valU ((zs.take k).drop 1) = V := ⟨_, rfl⟩
        have hVb := valU_bd ((zs.take k).drop 1)
        rw [hV] at hVb ⊢
        have HV := hid hV
        clear hzk hV
        by_cases hd : 48 ≤ z ∧ z ≤ 57
        · have hd1 : ¬ z < 48 := by omega
          have hd2 : ¬ 57 < z := by omega
          have hw1 : IntKind.u64.wrap (V * 10) = V * 10 % 18446744073709551616 := by simp [IntKind.wrap, IntKind.bits, IntKind.signed]
          have hw2 : IntKind.u8.wrap (z - 48) = z - 48 := by simp [IntKind.wrap, IntKind.bits, IntKind.signed]; omega
          have hw3 : IntKind.u64.wrap (z - 48) = z - 48 := by simp [IntKind.wrap, IntKind.bits, IntKind.signed]; omega
          have hw4 : IntKind.u64.wrap (V * 10 % 18446744073709551616 + (z - 48)) = (V * 10 % 18446744073709551616 + (z - 48)) % 18446744073709551616 := by simp [IntKind.wrap, IntKind.bits, IntKind.signed]
          have HVn := hid (show valU ((zs.take (k + 1)).drop 1) = (V * 10 % 18446744073709551616 + (z - 48)) % 18446744073709551616 by rw [HT.out, valU_app, HV.out])
          clear hd
          go_wp2_with fail
          go_roundw
          case rel => exact ⟨k + 1, by omega, by omega, by go_num, by rw [HVn.out]; try (first | rfl | simp), HB⟩
          case measure => simp [intOf]; omega
        · have HTl := hid (tells_bad HLk.out (by rw [HZk.out]; exact hd) (.inr (by omega)) 0)
          by_cases hd1 : z < 48
          · go_wp2_with fail
            go_ret2
            exact ⟨0, by omega, ⟨false, rfl⟩, HTl.out, HB.out⟩
          · have hd2 : 57 < z := by omega
            clear hd
            go_wp2_with fail
            go_ret2
            exact ⟨0, by omega, ⟨false, rfl⟩, HTl.out, HB.out⟩
      · have hlt' : ¬ (k : Int) < (n : Int) := by omega
        obtain rfl : k = n := by omega
        have hV : valU ((zs.take k).drop 1) = valU (zs.drop 1) := by rw [List.take_of_length_le (by have := HL.out; omega)]
        rw [hV]
        have HTl := hid (tells_neg HZ0.out)
        have hxb := wrap_bd (IntKind.u64.wrap (-(valU (zs.drop 1))))
        obtain ⟨X, hX⟩ : ∃ X, IntKind.i64.wrap (IntKind.u64.wrap (-(valU (zs.drop 1)))) = X := ⟨_, rfl⟩
        rw [hX] at HTl hxb
        have HXb := hid hxb
        obtain ⟨V, hVV⟩ : ∃ V, valU (zs.drop 1) = V := ⟨_, rfl⟩
        rw [hVV] at hX ⊢
        clear hV hVV hxb
        go_upto_region 16 with fail
        clear hX
        have BC := hid ((Still.drew wr).below wr.heap.size)
        have HS := hid (show ∀ W, Below wr.heap.size wr W → (convert 23 9 (.slice (some ⟨b, off, none⟩) k cap)).run Tryd.prog W = .ok (.string (str zs)) W from fun W bb => (HR.out.below (HB.out.trans (bb.mono HB.out.size)) (Nat.le_refl _)).str cap 23 Tryd.underlying23 Tryd.underlying5 Tryd.underlying9)
        refine region_K 99 (fun W => (convert 23 9 (.slice (some ⟨b, off, none⟩) k cap)).run Tryd.prog W = .ok (.string (str zs)) W) (by kernel_rfl) (HS.out _ BC.out) (fun hHeld => ?_)
        generalize wr.drew = vd at *
        refine anyK_take2 (i := 0) (v := ?v0_1) rfl (by kernel_rfl) (by kernel_rfl) (by kernel_rfl) (by rfl) (fun _ _ _ h => h) (by rfl) hHeld ?hy0_1 (some 61) (by rfl) ?rest0_1
        case hy0_1 => (intro W hSw; obtain x0 := hSw; go_simp; (try with_reducible rfl))
        try simp only [Act.put, List.setIfInBounds_toArray, List.set_cons_succ, List.set_cons_zero]
        refine anyK_take2 (i := 1) (v := ?v1_2) rfl (by kernel_rfl) (by kernel_rfl) (by kernel_rfl) (by rfl) (fun _ _ _ h => h) (by rfl) hHeld ?hy1_2 (some 62) (by rfl) ?rest1_2
        case hy1_2 => (intro W hSw; obtain x0 := hSw; go_simp; (try with_reducible rfl))
        try simp only [Act.put, List.setIfInBounds_toArray, List.set_cons_succ, List.set_cons_zero]
        refine anyK_take2 (i := 4) (v := ?v4_3) rfl (by kernel_rfl) (by kernel_rfl) (by kernel_rfl) (by rfl) (fun _ _ _ h => h) (by rfl) hHeld ?hy4_3 (some 65) (by rfl) ?rest4_3
        case hy4_3 => (intro W hSw; obtain x0 := hSw; go_simp; (try with_reducible rfl))
        try simp only [Act.put, List.setIfInBounds_toArray, List.set_cons_succ, List.set_cons_zero]
        refine anyK_take2 (i := 5) (v := ?v5_4) rfl (by kernel_rfl) (by kernel_rfl) (by kernel_rfl) (by rfl) (fun _ _ _ h => h) (by rfl) hHeld ?hy5_4 (some 66) (by rfl) ?rest5_4
        case hy5_4 => (intro W hSw; obtain x0 := hSw; go_simp; (try with_reducible rfl))
        try simp only [Act.put, List.setIfInBounds_toArray, List.set_cons_succ, List.set_cons_zero]
        refine anyK_step (i := 2) (by kernel_rfl) rfl (fun KP hK => ?_)
        go_simp
        refine (spec_l18digits X _ HXb.out).mono ?_
        rintro e v1 ⟨v, rfl, nb, b1⟩
        obtain ⟨ac, cc, rfl, rd⟩ := nb.rd (decI_byte HXb.out)
        replace BC := hid (BC.out.trans (b1.mono BC.out.size))
        have HRd := hid rd
        clear rd nb b1 hHeld
        go_wp2_with fail
        refine hK.out _ _ (HS.out _ BC.out) (fun hHeld => ?_)
        clear hK KP
        try simp only [Act.put, List.setIfInBounds_toArray, List.set_cons_succ, List.set_cons_zero]
        have HS2 := hid (HRd.out.str cc 23 Tryd.underlying23 Tryd.underlying5 Tryd.underlying9)
        have HBf := hid (HB.out.trans (BC.out.mono HB.out.size))
        refine anyK_more (fun W => (convert 23 9 (.slice (some ⟨b, off, none⟩) k cap)).run Tryd.prog W = .ok (.string (str zs)) W ∧ (convert 23 9 (.slice ac (decI X).length cc)).run Tryd.prog W = .ok (.string (str (decI X))) W) (fun _ h => h.1) ⟨hHeld, HS2.out⟩ (fun hHeld => ?_)
        refine anyK_take2 (i := 3) (v := ?v3_5) rfl (by kernel_rfl) (by kernel_rfl) (by kernel_rfl) (by rfl) (fun _ _ _ h => h) (by rfl) hHeld ?hy3_5 (some 64) (by rfl) ?rest3_5
        case hy3_5 => (intro W hSw; obtain ⟨x0, x1⟩ := hSw; go_simp; (try with_reducible rfl))
        try simp only [Act.put, List.setIfInBounds_toArray, List.set_cons_succ, List.set_cons_zero]
        refine anyK_take2 (i := 6) (v := ?v6_6) rfl (by kernel_rfl) (by kernel_rfl) (by kernel_rfl) (by rfl) (fun _ _ _ h => h) (by rfl) hHeld ?hy6_6 (some 67) (by rfl) ?rest6_6
        case hy6_6 => (intro W hSw; obtain ⟨x0, x1⟩ := hSw; go_simp; (try with_reducible rfl))
        try simp only [Act.put, List.setIfInBounds_toArray, List.set_cons_succ, List.set_cons_zero]
        refine anyK_take2 (i := 7) (v := ?v7_7) rfl (by kernel_rfl) (by kernel_rfl) (by kernel_rfl) (by rfl) (fun _ _ _ h => h) (by rfl) hHeld ?hy7_7 (some 2) (by rfl) ?rest7_7
        case hy7_7 => (intro W hSw; obtain ⟨x0, x1⟩ := hSw; go_simp; (try with_reducible rfl))
        try simp only [Act.put, List.setIfInBounds_toArray, List.set_cons_succ, List.set_cons_zero]
        refine anyK_take2 (i := 8) (v := ?v8_8) rfl (by kernel_rfl) (by kernel_rfl) (by kernel_rfl) (by rfl) (fun _ _ _ h => h) (by rfl) hHeld ?hy8_8 (some 3) (by rfl) ?rest8_8
        case hy8_8 => (intro W hSw; obtain ⟨x0, x1⟩ := hSw; go_simp; (try with_reducible rfl))
        try simp only [Act.put, List.setIfInBounds_toArray, List.set_cons_succ, List.set_cons_zero]
        refine anyK_done (by kernel_rfl) ?_ _
        go_wp2_with fail
        go_ret2
        exact ⟨X, HXb.out, ⟨_, rfl⟩, HTl.out, HBf.out⟩
  · have HZ0 := hid hz
    obtain ⟨z0, hzz⟩ : ∃ z0, zs.getD 0 0 = z0 := ⟨_, rfl⟩
    rw [hzz] at c0 hz hz0
    have h0' : ¬ (n : Int) = 0 := by omega
    clear hzz
    by_cases h20 : 20 < n
    · have h20' : (20 : Int) < (n : Int) := by omega
      go_wp2_with fail
      go_ret2
      exact ⟨0, by omega, ⟨false, rfl⟩, tells_len (.inr (by have := HL.out; omega)) 0, HB0.out⟩
    have h20' : ¬ (20 : Int) < (n : Int) := by omega
    go_wp2_with fail
    go_loopw [5, 6] (fun v s wr => ∃ k : Nat, 0 ≤ k ∧ k ≤ n ∧ s = .int .i64 (k : Int) ∧ v = .int .u64 (valU ((zs.take k).drop 0)) ∧ Hid (Below w.heap.size w wr)) (fun _ s _ => n - (intOf s).toNat)
    case atStart => exact ⟨0, Nat.le_refl _, by omega, rfl, by rw [List.drop_of_length_le (by rw [List.length_take]; omega)]; rfl, HB0⟩
    case round =>
      obtain ⟨k, hkA, hk, rfl, rfl, HB⟩ := hrel
      by_cases hlt : k < n
      · have hlt' : (k : Int) < (n : Int) := by omega
        have hk0 : (0 : Int) ≤ (k : Int) := by omega
        have HLk := hid (show k < zs.length by have := HL.out; omega)
        have hc : wr.cell? ⟨b, off + k, none⟩ = some (.int .u8 (zs.getD k 0)) := (HB.out.cell (World.block_lt_of_cell? w _ (HC.out k hlt))).trans (HC.out k hlt)
        have hz := HBd.out k
        have HT := hid (take_drop_step zs (A := 0) hkA HLk.out)
        obtain ⟨z, hzk⟩ : ∃ z, zs.getD k 0 = z := ⟨_, rfl⟩
        rw [hzk] at hz hc HT
        have HZk := hid hzk
        obtain ⟨V, hV⟩ : ∃ V, valU ((zs.take k).drop 0) = V := ⟨_, rfl⟩
        have hVb := valU_bd ((zs.take k).drop 0)
        rw [hV] at hVb ⊢
        have HV := hid hV
        clear hzk hV
        by_cases hd : 48 ≤ z ∧ z ≤ 57
        · have hd1 : ¬ z < 48 := by omega
          have hd2 : ¬ 57 < z := by omega
          have hw1 : IntKind.u64.wrap (V * 10) = V * 10 % 18446744073709551616 := by simp [IntKind.wrap, IntKind.bits, IntKind.signed]
          have hw2 : IntKind.u8.wrap (z - 48) = z - 48 := by simp [IntKind.wrap, IntKind.bits, IntKind.signed]; omega
          have hw3 : IntKind.u64.wrap (z - 48) = z - 48 := by simp [IntKind.wrap, IntKind.bits, IntKind.signed]; omega
          have hw4 : IntKind.u64.wrap (V * 10 % 18446744073709551616 + (z - 48)) = (V * 10 % 18446744073709551616 + (z - 48)) % 18446744073709551616 := by simp [IntKind.wrap, IntKind.bits, IntKind.signed]
          have HVn := hid (show valU ((zs.take (k + 1)).drop 0) = (V * 10 % 18446744073709551616 + (z - 48)) % 18446744073709551616 by rw [HT.out, valU_app, HV.out])
          clear hd
          go_wp2_with fail
          go_roundw
          case rel => exact ⟨k + 1, by omega, by omega, by go_num, by rw [HVn.out]; try (first | rfl | simp), HB⟩
          case measure => simp [intOf]; omega
        · have HTl := hid (tells_bad HLk.out (by rw [HZk.out]; exact hd) (by by_cases e : 0 < k; (exact .inr e); (obtain rfl : k = 0 := (by omega); exact .inl HZ0.out)) 0)
          by_cases hd1 : z < 48
          · go_wp2_with fail
            go_ret2
            exact ⟨0, by omega, ⟨false, rfl⟩, HTl.out, HB.out⟩
          · have hd2 : 57 < z := by omega
            clear hd
            go_wp2_with fail
            go_ret2
            exact ⟨0, by omega, ⟨false, rfl⟩, HTl.out, HB.out⟩
      · have hlt' : ¬ (k : Int) < (n : Int) := by omega
        obtain rfl : k = n := by omega
        have hV : valU ((zs.take k).drop 0) = valU (zs) := by rw [List.take_of_length_le (by have := HL.out; omega)]; rfl
        rw [hV]
        have HTl := hid (tells_pos HZ0.out)
        have hxb := wrap_bd (valU zs)
        obtain ⟨X, hX⟩ : ∃ X, IntKind.i64.wrap (valU zs) = X := ⟨_, rfl⟩
        rw [hX] at HTl hxb
        have HXb := hid hxb
        obtain ⟨V, hVV⟩ : ∃ V, valU zs = V := ⟨_, rfl⟩
        rw [hVV] at hX ⊢
        clear hV hVV hxb
        go_upto_region 16 with fail
        clear hX
        have BC := hid ((Still.drew wr).below wr.heap.size)
        have HS := hid (show ∀ W, Below wr.heap.size wr W → (convert 23 9 (.slice (some ⟨b, off, none⟩) k cap)).run Tryd.prog W = .ok (.string (str zs)) W from fun W bb => (HR.out.below (HB.out.trans (bb.mono HB.out.size)) (Nat.le_refl _)).str cap 23 Tryd.underlying23 Tryd.underlying5 Tryd.underlying9)
        refine region_K 99 (fun W => (convert 23 9 (.slice (some ⟨b, off, none⟩) k cap)).run Tryd.prog W = .ok (.string (str zs)) W) (by kernel_rfl) (HS.out _ BC.out) (fun hHeld => ?_)
        generalize wr.drew = vd at *
        refine anyK_take2 (i := 0) (v := ?v0_9) rfl (by kernel_rfl) (by kernel_rfl) (by kernel_rfl) (by rfl) (fun _ _ _ h => h) (by rfl) hHeld ?hy0_9 (some 61) (by rfl) ?rest0_9
        case hy0_9 => (intro W hSw; obtain x0 := hSw; go_simp; (try with_reducible rfl))
        try simp only [Act.put, List.setIfInBounds_toArray, List.set_cons_succ, List.set_cons_zero]
        refine anyK_take2 (i := 1) (v := ?v1_10) rfl (by kernel_rfl) (by kernel_rfl) (by kernel_rfl) (by rfl) (fun _ _ _ h => h) (by rfl) hHeld ?hy1_10 (some 62) (by rfl) ?rest1_10
        case hy1_10 => (intro W hSw; obtain x0 := hSw; go_simp; (try with_reducible rfl))
        try simp only [Act.put, List.setIfInBounds_toArray, List.set_cons_succ, List.set_cons_zero]
        refine anyK_take2 (i := 4) (v := ?v4_11) rfl (by kernel_rfl) (by kernel_rfl) (by kernel_rfl) (by rfl) (fun _ _ _ h => h) (by rfl) hHeld ?hy4_11 (some 65) (by rfl) ?rest4_11
        case hy4_11 => (intro W hSw; obtain x0 := hSw; go_simp; (try with_reducible rfl))
        try simp only [Act.put, List.setIfInBounds_toArray, List.set_cons_succ, List.set_cons_zero]
        refine anyK_take2 (i := 5) (v := ?v5_12) rfl (by kernel_rfl) (by kernel_rfl) (by kernel_rfl) (by rfl) (fun _ _ _ h => h) (by rfl) hHeld ?hy5_12 (some 66) (by rfl) ?rest5_12
        case hy5_12 => (intro W hSw; obtain x0 := hSw; go_simp; (try with_reducible rfl))
        try simp only [Act.put, List.setIfInBounds_toArray, List.set_cons_succ, List.set_cons_zero]
        refine anyK_step (i := 2) (by kernel_rfl) rfl (fun KP hK => ?_)
        go_simp
        refine (spec_l18digits X _ HXb.out).mono ?_
        rintro e v1 ⟨v, rfl, nb, b1⟩
        obtain ⟨ac, cc, rfl, rd⟩ := nb.rd (decI_byte HXb.out)
        replace BC := hid (BC.out.trans (b1.mono BC.out.size))
        have HRd := hid rd
        clear rd nb b1 hHeld
        go_wp2_with fail
        refine hK.out _ _ (HS.out _ BC.out) (fun hHeld => ?_)
        clear hK KP
        try simp only [Act.put, List.setIfInBounds_toArray, List.set_cons_succ, List.set_cons_zero]
        have HS2 := hid (HRd.out.str cc 23 Tryd.underlying23 Tryd.underlying5 Tryd.underlying9)
        have HBf := hid (HB.out.trans (BC.out.mono HB.out.size))
        refine anyK_more (fun W => (convert 23 9 (.slice (some ⟨b, off, none⟩) k cap)).run Tryd.prog W = .ok (.string (str zs)) W ∧ (convert 23 9 (.slice ac (decI X).length cc)).run Tryd.prog W = .ok (.string (str (decI X))) W) (fun _ h => h.1) ⟨hHeld, HS2.out⟩ (fun hHeld => ?_)
        refine anyK_take2 (i := 3) (v := ?v3_13) rfl (by kernel_rfl) (by kernel_rfl) (by kernel_rfl) (by rfl) (fun _ _ _ h => h) (by rfl) hHeld ?hy3_13 (some 64) (by rfl) ?rest3_13
        case hy3_13 => (intro W hSw; obtain ⟨x0, x1⟩ := hSw; go_simp; (try with_reducible rfl))
        try simp only [Act.put, List.setIfInBounds_toArray, List.set_cons_succ, List.set_cons_zero]
        refine anyK_take2 (i := 6) (v := ?v6_14) rfl (by kernel_rfl) (by kernel_rfl) (by kernel_rfl) (by rfl) (fun _ _ _ h => h) (by rfl) hHeld ?hy6_14 (some 67) (by rfl) ?rest6_14
        case hy6_14 => (intro W hSw; obtain ⟨x0, x1⟩ := hSw; go_simp; (try with_reducible rfl))
        try simp only [Act.put, List.setIfInBounds_toArray, List.set_cons_succ, List.set_cons_zero]
        refine anyK_take2 (i := 7) (v := ?v7_15) rfl (by kernel_rfl) (by kernel_rfl) (by kernel_rfl) (by rfl) (fun _ _ _ h => h) (by rfl) hHeld ?hy7_15 (some 2) (by rfl) ?rest7_15
        case hy7_15 => (intro W hSw; obtain ⟨x0, x1⟩ := hSw; go_simp; (try with_reducible rfl))
        try simp only [Act.put, List.setIfInBounds_toArray, List.set_cons_succ, List.set_cons_zero]
        refine anyK_take2 (i := 8) (v := ?v8_16) rfl (by kernel_rfl) (by kernel_rfl) (by kernel_rfl) (by rfl) (fun _ _ _ h => h) (by rfl) hHeld ?hy8_16 (some 3) (by rfl) ?rest8_16
        case hy8_16 => (intro W hSw; obtain ⟨x0, x1⟩ := hSw; go_simp; (try with_reducible rfl))
        try simp only [Act.put, List.setIfInBounds_toArray, List.set_cons_succ, List.set_cons_zero]
        refine anyK_done (by kernel_rfl) ?_ _
        go_wp2_with fail
        go_ret2
        exact ⟨X, HXb.out, ⟨_, rfl⟩, HTl.out, HBf.out⟩
end Go.Proofs.YtoppccfgcccijaaDoor
/- Floats of 64 bits, by what they are worth: the number of least floats in each (its 'wval'), and what sums, differences, products and halves give where the result is exact. No statement of its own; no conditions. -/

namespace Go.Proofs.YtoppccfgcccijaaDoor
open Ieee

/-- How many of the least float a float is worth. -/
def wval (r : Nat) : Nat := if r < 2 ^ 52 then r else (2 ^ 52 + r % 2 ^ 52) * 2 ^ (r / 2 ^ 52 - 1)
/-- The float that is worth so many. -/
def rg (v : Nat) : Nat := (v.log2 - 52) * 2 ^ 52 + v / 2 ^ (v.log2 - 52)

theorem log2_mul_pow (m k : Nat) (h : 0 < m) : (m * 2 ^ k).log2 = m.log2 + k := by
  have hm : m ≠ 0 := by omega
  have h1 := Nat.log2_self_le hm
  have h2 := Nat.lt_log2_self (n := m)
  have hp : 0 < 2 ^ k := Nat.two_pow_pos k
  refine (Nat.log2_eq_iff (Nat.mul_ne_zero hm (by omega))).2 ⟨?_, ?_⟩
  · rw [Nat.pow_add]; exact Nat.mul_le_mul_right _ h1
  · rw [show m.log2 + k + 1 = (m.log2 + 1) + k by omega, Nat.pow_add]; exact Nat.mul_lt_mul_of_pos_right h2 hp

theorem cut_even (s : Bool) (q d : Nat) : Toward.even.cut s (q * 2 ^ d) d = q := by
  have hp : 0 < 2 ^ d := Nat.two_pow_pos d
  by_cases hq : q = 0
  · subst hq
    have : 0 < 1 <<< min d 2 := by rw [Nat.one_shiftLeft]; exact Nat.two_pow_pos _
    simp only [Toward.cut, Nat.zero_mul, Nat.log2_zero, Nat.zero_add, Nat.zero_div, Nat.zero_mod, Nat.mul_zero]
    have h1 : ¬ (1 <<< min d 2 < 0) := by omega
    have h2 : ((1 <<< min d 2) == 0) = false := beq_eq_false_iff_ne.2 (by omega)
    simp [h2]
  · have hl := log2_mul_pow q d (by omega)
    have hm : min d ((q * 2 ^ d).log2 + 2) = d := by omega
    simp only [Toward.cut, hm, Nat.one_shiftLeft]
    rw [Nat.mul_div_cancel _ hp, Nat.mul_mod_left]
    have h2 : ((2 ^ d) == 2 * 0) = false := beq_eq_false_iff_ne.2 (by omega)
    simp [h2]

theorem cut_zero (s : Bool) (n d : Nat) : Toward.zero.cut s n d = n / 2 ^ d := by
  simp only [Toward.cut, Nat.one_shiftLeft, Bool.toNat_false, Nat.add_zero]
  by_cases h : d ≤ n.log2 + 2
  · rw [Nat.min_eq_left h]
  · have h1 : n < 2 ^ (n.log2 + 1) := Nat.lt_log2_self
    have h2 : 2 ^ (n.log2 + 1) ≤ 2 ^ (n.log2 + 2) := Nat.pow_le_pow_right (by omega) (by omega)
    have h3 : 2 ^ (n.log2 + 2) ≤ 2 ^ d := Nat.pow_le_pow_right (by omega) (by omega)
    rw [Nat.min_eq_right (by omega), Nat.div_eq_of_lt (by omega), Nat.div_eq_of_lt (by omega)]

theorem lp : double.leastPlace = -1074 := by decide
theorem fb : double.fractionBits = 52 := rfl
theorem bin : double.binade = 2 ^ 52 := rfl
theorem infR : double.infRung = 2047 * 2 ^ 52 := by decide
theorem sw : double.signWeight = 2 ^ 63 := rfl

theorem rg_zero : rg 0 = 0 := by decide

/-- A number that is worth v whole least floats, v of at most 53 digits and noughts, is just that float. -/
theorem nearest_rg (s : Bool) (m : Nat) (p : Int) (v : Nat) (h : m * 2 ^ (p + 1074).toNat = v * 2 ^ (-1074 - p).toNat) (hd : 2 ^ (v.log2 - 52) ∣ v) :
    double.nearest s m p = double.word s (min (rg v) (2047 * 2 ^ 52)) := by
  by_cases hm : m = 0
  · subst hm
    have hp : 0 < 2 ^ (-1074 - p).toNat := Nat.two_pow_pos _
    have hv : v = 0 := by
      rw [Nat.zero_mul] at h
      rcases Nat.mul_eq_zero.1 h.symm with h | h
      · exact h
      · omega
    subst hv
    rw [rg_zero]
    simp [Format.nearest]
  · have hv : 0 < v := by
      rcases Nat.eq_zero_or_pos v with rfl | h0
      · rw [Nat.zero_mul] at h
        rcases Nat.mul_eq_zero.1 h with h | h
        · exact absurd h hm
        · have := Nat.two_pow_pos (p + 1074).toNat; omega
      · exact h0
    have hl : m.log2 + (p + 1074).toNat = v.log2 + (-1074 - p).toNat := by
      rw [← log2_mul_pow m _ (by omega), ← log2_mul_pow v _ hv, h]
    obtain ⟨q, hq⟩ := hd
    have hrg : rg v = (v.log2 - 52) * 2 ^ 52 + q := by
      unfold rg
      have hp : 0 < 2 ^ (v.log2 - 52) := Nat.two_pow_pos _
      have : v / 2 ^ (v.log2 - 52) = q := by
        rw [Nat.div_eq_iff_eq_mul_left hp ⟨q, hq⟩, Nat.mul_comm]
        exact hq
      rw [this]
    have hK : max (p + (m.log2 : Int) - (52 : Nat)) (-1074) = ((v.log2 - 52 : Nat) : Int) - 1074 := by omega
    rw [hrg]
    have hkept : Toward.even.cut s (m <<< (p - (((v.log2 - 52 : Nat) : Int) - 1074)).toNat) ((((v.log2 - 52 : Nat) : Int) - 1074) - p).toNat = q := by
      clear hK hrg hl
      generalize v.log2 - 52 = K at hq
      rw [hq] at h
      by_cases ht : (K : Int) ≤ p + 1074
      · obtain ⟨t, ht'⟩ : ∃ t : Nat, p + 1074 = K + t := ⟨(p + 1074 - K).toNat, by omega⟩
        have e1 : (p - ((K : Int) - 1074)).toNat = t := by omega
        have e2 : (((K : Int) - 1074) - p).toNat = 0 := by omega
        have e3 : (p + 1074).toNat = K + t := by omega
        have e4 : (-1074 - p).toNat = 0 := by omega
        rw [e3, e4, Nat.pow_zero, Nat.mul_one, Nat.pow_add] at h
        rw [e1, e2, Nat.shiftLeft_eq]
        have hp : 0 < 2 ^ K := Nat.two_pow_pos _
        have : m * 2 ^ t = q := by
          apply Nat.eq_of_mul_eq_mul_left hp
          rw [← h, ← Nat.mul_assoc, Nat.mul_comm (2 ^ K) m, Nat.mul_assoc]
        rw [this]
        have := cut_even s q 0
        rwa [Nat.pow_zero, Nat.mul_one] at this
      · obtain ⟨t, ht'⟩ : ∃ t : Nat, (K : Int) = p + 1074 + t := ⟨(K - (p + 1074)).toNat, by omega⟩
        have e1 : (p - ((K : Int) - 1074)).toNat = 0 := by omega
        have e2 : (((K : Int) - 1074) - p).toNat = t := by omega
        rw [e1, e2, Nat.shiftLeft_eq, Nat.pow_zero, Nat.mul_one]
        have : m = q * 2 ^ t := by
          by_cases hA : 0 ≤ p + 1074
          · obtain ⟨A, hA'⟩ : ∃ A : Nat, p + 1074 = A := ⟨(p + 1074).toNat, by omega⟩
            have e3 : (p + 1074).toNat = A := by omega
            have e4 : (-1074 - p).toNat = 0 := by omega
            have e5 : K = A + t := by omega
            rw [e3, e4, Nat.pow_zero, Nat.mul_one, e5, Nat.pow_add] at h
            have hp : 0 < 2 ^ A := Nat.two_pow_pos _
            apply Nat.eq_of_mul_eq_mul_right hp
            rw [h, Nat.mul_comm q, Nat.mul_assoc, Nat.mul_assoc, Nat.mul_comm, Nat.mul_assoc]
          · obtain ⟨A, hA'⟩ : ∃ A : Nat, p + 1074 = -A := ⟨(-(p + 1074)).toNat, by omega⟩
            have e3 : (p + 1074).toNat = 0 := by omega
            have e4 : (-1074 - p).toNat = A := by omega
            have e5 : t = K + A := by omega
            rw [e3, e4, Nat.pow_zero, Nat.mul_one] at h
            rw [h, e5, Nat.pow_add, Nat.mul_comm (2 ^ K) q, Nat.mul_assoc]
        rw [this, cut_even]
    simp only [Format.nearest, hm, if_false, lp, fb, bin, infR]
    rw [hK, hkept]
    have e : ((((v.log2 - 52 : Nat) : Int) - 1074) - -1074).toNat = v.log2 - 52 := by omega
    rw [e]

/-- v is worth a float: it has at most 53 digits and noughts behind them, and isn't too great. -/
def Rep (v : Nat) : Prop := rg v < 2047 * 2 ^ 52 ∧ wval (rg v) = v ∧ 2 ^ (v.log2 - 52) ∣ v

theorem rep_of (c j : Nat) (hc : c < 2 ^ 53) (hv : j ≤ 2045) : Rep (c * 2 ^ j) := by
  by_cases h0 : c = 0
  · subst h0
    rw [Nat.zero_mul]
    refine ⟨by rw [rg_zero]; decide, by rw [rg_zero]; decide, ⟨0, by simp⟩⟩
  · have hl := log2_mul_pow c j (by omega)
    have hcl : c.log2 < 53 := (Nat.log2_lt h0).2 hc
    have hdvd : 2 ^ ((c * 2 ^ j).log2 - 52) ∣ c * 2 ^ j := Nat.dvd_trans (Nat.pow_dvd_pow 2 (by omega)) ⟨c, Nat.mul_comm _ _⟩
    have hpos : c * 2 ^ j ≠ 0 := Nat.mul_ne_zero h0 (by have := Nat.two_pow_pos j; omega)
    generalize c * 2 ^ j = v at *
    have hL := Nat.log2_self_le hpos
    have hU := Nat.lt_log2_self (n := v)
    have hLv : v.log2 < 2098 := by omega
    unfold Rep rg
    by_cases hs : v.log2 ≤ 52
    · have e : v.log2 - 52 = 0 := by omega
      rw [e] at hdvd ⊢
      rw [Nat.pow_zero, Nat.zero_mul, Nat.zero_add, Nat.div_one]
      have h53 : v < 2 ^ 53 := Nat.lt_of_lt_of_le hU (Nat.pow_le_pow_right (by omega) (by omega))
      refine ⟨by omega, ?_, ⟨v, by omega⟩⟩
      unfold wval
      split
      · rfl
      · have : v / 2 ^ 52 = 1 := by omega
        rw [this]
        omega
    · obtain ⟨K, hK⟩ : ∃ K, v.log2 = 52 + K := ⟨v.log2 - 52, by omega⟩
      have e : v.log2 - 52 = K := by omega
      rw [e] at hdvd ⊢
      rw [hK] at hL hU
      obtain ⟨q, rfl⟩ := hdvd
      have hp : 0 < 2 ^ K := Nat.two_pow_pos _
      rw [Nat.mul_div_cancel_left _ hp]
      have hq1 : 2 ^ 52 ≤ q := by
        rw [Nat.pow_add, Nat.mul_comm] at hL
        exact Nat.le_of_mul_le_mul_left hL hp
      have hq2 : q < 2 ^ 53 := by
        rw [show 52 + K + 1 = K + 53 by omega, Nat.pow_add] at hU
        exact Nat.lt_of_mul_lt_mul_left hU
      have hKl : K ≤ 2045 := by omega
      refine ⟨by omega, ?_, ⟨q, rfl⟩⟩
      unfold wval
      have h1 : ¬ (K * 2 ^ 52 + q < 2 ^ 52) := by omega
      have h2 : (K * 2 ^ 52 + q) / 2 ^ 52 = K + 1 := by omega
      have h3 : (K * 2 ^ 52 + q) % 2 ^ 52 = q - 2 ^ 52 := by omega
      have h4 : 2 ^ 52 + (q - 2 ^ 52) = q := by omega
      rw [if_neg h1, h2, h3, h4, Nat.add_sub_cancel, Nat.mul_comm]

theorem wval_lt (a b : Nat) (h : a < b) : wval a < wval b := by
  unfold wval
  by_cases hb : b < 2 ^ 52
  · rw [if_pos hb, if_pos (by omega)]
    exact h
  · rw [if_neg hb]
    have hm : a % 2 ^ 52 < 2 ^ 52 := Nat.mod_lt _ (by omega)
    by_cases ha : a < 2 ^ 52
    · rw [if_pos ha]
      have hp : 0 < 2 ^ (b / 2 ^ 52 - 1) := Nat.two_pow_pos _
      have : (2 ^ 52 + b % 2 ^ 52) * 1 ≤ (2 ^ 52 + b % 2 ^ 52) * 2 ^ (b / 2 ^ 52 - 1) := Nat.mul_le_mul_left _ hp
      omega
    · rw [if_neg ha]
      have hab : a / 2 ^ 52 ≤ b / 2 ^ 52 := Nat.div_le_div_right (by omega)
      by_cases he : a / 2 ^ 52 = b / 2 ^ 52
      · rw [he]
        exact Nat.mul_lt_mul_of_pos_right (by omega) (Nat.two_pow_pos _)
      · obtain ⟨t, ht⟩ : ∃ t, b / 2 ^ 52 - 1 = (a / 2 ^ 52 - 1) + 1 + t := ⟨b / 2 ^ 52 - 1 - (a / 2 ^ 52 - 1) - 1, by omega⟩
        rw [ht, Nat.pow_add, Nat.pow_succ (n := 2) (m := a / 2 ^ 52 - 1)]
        have hp : 0 < 2 ^ (a / 2 ^ 52 - 1) := Nat.two_pow_pos _
        have ht' : 0 < 2 ^ t := Nat.two_pow_pos _
        generalize 2 ^ (a / 2 ^ 52 - 1) = P at *
        calc (2 ^ 52 + a % 2 ^ 52) * P < (2 ^ 52 * 2) * P := Nat.mul_lt_mul_of_pos_right (by omega) hp
          _ = 2 ^ 52 * (P * 2) := by rw [Nat.mul_assoc, Nat.mul_comm 2 P]
          _ ≤ 2 ^ 52 * (P * 2 * 2 ^ t) := Nat.mul_le_mul_left _ (Nat.le_mul_of_pos_right _ ht')
          _ ≤ (2 ^ 52 + b % 2 ^ 52) * (P * 2 * 2 ^ t) := Nat.mul_le_mul_right _ (by omega)

theorem wval_inj (a b : Nat) (h : wval a = wval b) : a = b := by
  rcases Nat.lt_trichotomy a b with h' | h' | h'
  · have := wval_lt a b h'; omega
  · exact h'
  · have := wval_lt b a h'; omega

/-- A finite float as 53 digits and noughts. -/
theorem wval_form (r : Nat) (h : r < 2047 * 2 ^ 52) : ∃ c j, c < 2 ^ 53 ∧ wval r = c * 2 ^ j ∧ j ≤ 2045 := by
  unfold wval
  have hm : r % 2 ^ 52 < 2 ^ 52 := Nat.mod_lt _ (by omega)
  split
  · exact ⟨r, 0, by omega, by rw [Nat.pow_zero, Nat.mul_one], by omega⟩
  · exact ⟨_, _, by omega, rfl, by omega⟩

theorem rep_wval (r : Nat) (h : r < 2047 * 2 ^ 52) : Rep (wval r) := by
  obtain ⟨c, j, hc, he, hv⟩ := wval_form r h
  rw [he]
  exact rep_of c j hc hv

theorem rg_wval (r : Nat) (h : r < 2047 * 2 ^ 52) : rg (wval r) = r := wval_inj _ _ (rep_wval r h).2.1

/-- What a finite float is read as. -/
theorem read_word (s : Bool) (r : Nat) (h : r < 2047 * 2 ^ 52) : ∃ m : Nat, ∃ k : Nat, double.read (double.word s r) = .number s m ((k : Int) - 1074) ∧ m * 2 ^ k = wval r ∧ m < 2 ^ 53 := by
  have h63 : r < 2 ^ 63 := by omega
  have hs : (double.word s r / double.signWeight % 2 == 1) = s := by
    unfold Format.word
    rw [sw]
    cases s
    · rw [if_neg (by simp)]
      have : r / 2 ^ 63 = 0 := by omega
      rw [this]; rfl
    · rw [if_pos rfl]
      have : (2 ^ 63 + r) / 2 ^ 63 % 2 = 1 := by omega
      rw [this]; rfl
  have hr : double.word s r % double.signWeight = r := by
    unfold Format.word
    rw [sw]
    cases s
    · rw [if_neg (by simp)]; omega
    · rw [if_pos rfl]; omega
  simp only [Format.read, hs, hr, bin, infR, lp]
  have hm : r % 2 ^ 52 < 2 ^ 52 := Nat.mod_lt _ (by omega)
  by_cases h1 : r < 2 ^ 52
  · rw [if_pos h1]
    refine ⟨r, 0, rfl, ?_, by omega⟩
    rw [wval, if_pos h1, Nat.pow_zero, Nat.mul_one]
  · rw [if_neg h1, if_pos h]
    refine ⟨2 ^ 52 + r % 2 ^ 52, r / 2 ^ 52 - 1, ?_, ?_, ?_⟩
    · congr 1
    · rw [wval, if_neg h1]
    · omega

/-- A number that is just worth the float r is written as r. -/
theorem write_word (s : Bool) (m : Nat) (p : Int) (r : Nat) (hr : r < 2047 * 2 ^ 52) (h : m * 2 ^ (p + 1074).toNat = wval r * 2 ^ (-1074 - p).toNat) : double.write (.number s m p) = double.word s r := by
  have hR := rep_wval r hr
  have := nearest_rg s m p (wval r) h hR.2.2
  rw [rg_wval r hr, Nat.min_eq_left (by omega)] at this
  exact this

theorem shift (M V A B : Nat) (h : M * 2 ^ A = V * 2 ^ B) : M * 2 ^ ((A : Int) - B).toNat = V * 2 ^ ((B : Int) - A).toNat := by
  by_cases hAB : B ≤ A
  · obtain ⟨t, rfl⟩ : ∃ t, A = B + t := ⟨A - B, by omega⟩
    have e1 : (((B + t : Nat) : Int) - B).toNat = t := by omega
    have e2 : ((B : Int) - ((B + t : Nat) : Int)).toNat = 0 := by omega
    rw [e1, e2, Nat.pow_zero, Nat.mul_one]
    have hp : 0 < 2 ^ B := Nat.two_pow_pos _
    apply Nat.eq_of_mul_eq_mul_right hp
    rw [← h, Nat.pow_add, Nat.mul_assoc, Nat.mul_comm (2 ^ t)]
  · obtain ⟨t, rfl⟩ : ∃ t, B = A + t := ⟨B - A, by omega⟩
    have e1 : (((A + t : Nat) : Int) - A).toNat = t := by omega
    have e2 : ((A : Int) - ((A + t : Nat) : Int)).toNat = 0 := by omega
    rw [e1, e2, Nat.pow_zero, Nat.mul_one]
    have hp : 0 < 2 ^ A := Nat.two_pow_pos _
    apply Nat.eq_of_mul_eq_mul_right hp
    rw [h, Nat.pow_add, Nat.mul_assoc, Nat.mul_comm (2 ^ A)]

/-- The same, by two powers. -/
theorem write_by (s : Bool) (m : Nat) (p : Int) (r A B : Nat) (hr : r < 2047 * 2 ^ 52) (hp : p + 1074 = (A : Int) - B) (h : m * 2 ^ A = wval r * 2 ^ B) : double.write (.number s m p) = double.word s r := by
  refine write_word s m p r hr ?_
  rw [show (-1074 - p : Int) = (B : Int) - A by omega, hp]
  exact shift _ _ _ _ h

theorem mul_exact (s t : Bool) (a b c : Nat) (ha : a < 2047 * 2 ^ 52) (hb : b < 2047 * 2 ^ 52) (hc : c < 2047 * 2 ^ 52) (h : wval a * wval b = wval c * 2 ^ 1074) :
    double.mul (double.word s a) (double.word t b) = some (double.word (s ^^ t) c) := by
  obtain ⟨m, k, e1, v1, -⟩ := read_word s a ha
  obtain ⟨n, l, e2, v2, -⟩ := read_word t b hb
  rw [Format.mul, e1, e2]
  simp only [Datum.product, Option.map_some]
  rw [write_by (s ^^ t) _ _ c (k + l) 1074 hc (by omega)]
  rw [← h, ← v1, ← v2, Nat.pow_add, Nat.mul_assoc, Nat.mul_assoc, ← Nat.mul_assoc n, ← Nat.mul_assoc (2 ^ k), Nat.mul_comm (2 ^ k) n]

theorem shl_to (m k b : Nat) (h : b ≤ k) : m <<< (((k : Int) - 1074) - ((b : Int) - 1074)).toNat * 2 ^ b = m * 2 ^ k := by
  rw [show (((k : Int) - 1074) - ((b : Int) - 1074)).toNat = k - b by omega, Nat.shiftLeft_eq, Nat.mul_assoc, ← Nat.pow_add, Nat.sub_add_cancel h]

theorem min_place (k l : Nat) : min ((k : Int) - 1074) ((l : Int) - 1074) = ((min k l : Nat) : Int) - 1074 := by omega

theorem add_exact (a b c : Nat) (ha : a < 2047 * 2 ^ 52) (hb : b < 2047 * 2 ^ 52) (hc : c < 2047 * 2 ^ 52) (h : wval a + wval b = wval c) :
    double.add a b = some c := by
  obtain ⟨m, k, e1, v1, -⟩ := read_word false a ha
  obtain ⟨n, l, e2, v2, -⟩ := read_word false b hb
  have ea : double.word false a = a := rfl
  have eb : double.word false b = b := rfl
  have ec : double.word false c = c := rfl
  rw [ea] at e1
  rw [eb] at e2
  rw [Format.add, e1, e2]
  simp only [Datum.sum, Option.map_some, min_place, signed, Bool.false_eq_true, if_false, Bool.and_self]
  have h1 := shl_to m k (min k l) (Nat.min_le_left _ _)
  have h2 := shl_to n l (min k l) (Nat.min_le_right _ _)
  generalize m <<< (((k : Int) - 1074) - (((min k l : Nat) : Int) - 1074)).toNat = X at *
  generalize n <<< (((l : Int) - 1074) - (((min k l : Nat) : Int) - 1074)).toNat = Y at *
  have hs : (if (X : Int) + Y = 0 then false else decide ((X : Int) + Y < 0)) = false := by
    split
    · rfl
    · exact decide_eq_false (by omega)
  have hn : ((X : Int) + Y).natAbs = X + Y := by omega
  rw [hs, hn, write_by false _ _ c (min k l) 0 hc (by omega), ec]
  rw [Nat.pow_zero, Nat.mul_one, Nat.add_mul, h1, h2, ← h, v1, v2]

theorem sub_exact (a b c : Nat) (ha : a < 2047 * 2 ^ 52) (hb : b < 2047 * 2 ^ 52) (hc : c < 2047 * 2 ^ 52) (h : wval a = wval b + wval c) :
    double.sub a b = some c := by
  obtain ⟨m, k, e1, v1, -⟩ := read_word false a ha
  obtain ⟨n, l, e2, v2, -⟩ := read_word false b hb
  have ea : double.word false a = a := rfl
  have eb : double.word false b = b := rfl
  have ec : double.word false c = c := rfl
  rw [ea] at e1
  rw [eb] at e2
  rw [Format.sub, e1, e2]
  simp only [Datum.opposite, Datum.sum, Option.map_some, min_place, signed, Bool.false_eq_true, if_false, Bool.not_false, if_true, Bool.and_true]
  have h1 := shl_to m k (min k l) (Nat.min_le_left _ _)
  have h2 := shl_to n l (min k l) (Nat.min_le_right _ _)
  generalize m <<< (((k : Int) - 1074) - (((min k l : Nat) : Int) - 1074)).toNat = X at *
  generalize n <<< (((l : Int) - 1074) - (((min k l : Nat) : Int) - 1074)).toNat = Y at *
  have hp : 0 < 2 ^ min k l := Nat.two_pow_pos _
  have hXY : Y ≤ X := by
    apply Nat.le_of_mul_le_mul_right _ hp
    omega
  have hs : (if (X : Int) + -(Y : Int) = 0 then false else decide ((X : Int) + -(Y : Int) < 0)) = false := by
    split
    · rfl
    · exact decide_eq_false (by omega)
  have hn : ((X : Int) + -(Y : Int)).natAbs = X - Y := by omega
  rw [hs, hn, write_by false _ _ c (min k l) 0 hc (by omega), ec]
  rw [Nat.pow_zero, Nat.mul_one, Nat.sub_mul, h1, h2]
  omega

theorem half_exact (s : Bool) (d a c q : Nat) (hd : double.read d = .number false (2 ^ 52) ((q : Int) - 52)) (ha : a < 2047 * 2 ^ 52) (hc : c < 2047 * 2 ^ 52) (h : wval a = wval c * 2 ^ q) :
    double.div (double.word s a) d = some (double.word s c) := by
  obtain ⟨m, k, e1, v1, hm⟩ := read_word s a ha
  have hl : m.log2 ≤ 52 := by
    by_cases h0 : m = 0
    · subst h0; decide
    · have := (Nat.log2_lt h0).2 hm
      omega
  have h52 : (2 ^ 52 : Nat).log2 = 52 := by decide
  have hn0 : ¬ ((2 : Nat) ^ 52 = 0) := by decide
  rw [Format.div, e1, hd]
  simp only [Datum.quotient, fb, hn0, if_false, h52, Option.map_some, Bool.xor_false]
  obtain ⟨t, ht⟩ : ∃ t, 52 + 2 + 52 - m.log2 = 52 + t := ⟨52 + 2 - m.log2, by omega⟩
  rw [ht]
  have hdiv : m <<< (52 + t) = (m * 2 ^ t) * 2 ^ 52 := by rw [Nat.shiftLeft_eq, Nat.pow_add, Nat.mul_comm (2 ^ 52), Nat.mul_assoc]
  rw [hdiv, Nat.mul_div_cancel _ (by decide), Nat.mul_mod_left]
  simp only [bne_self_eq_false, Bool.toNat_false, Nat.add_zero]
  rw [write_by s _ _ c k (q + t + 1) hc (by omega)]
  have e : 2 * (m * 2 ^ t) * 2 ^ k = (m * 2 ^ k) * 2 ^ t * 2 := by ac_rfl
  rw [e, v1, h, Nat.pow_succ, Nat.pow_add]
  ac_rfl

/-- Cut towards zero. -/
theorem toInt_exact (a : Nat) (ha : a < 2047 * 2 ^ 52) (n : Nat) (h : wval a = n * 2 ^ 1074) : (double.read a).toInt .zero = some (n : Int) := by
  obtain ⟨m, k, e1, v1, hm⟩ := read_word false a ha
  have ea : double.word false a = a := rfl
  rw [ea] at e1
  rw [e1]
  simp only [Datum.toInt, Datum.integral, signed, Bool.false_eq_true, if_false, Nat.shiftLeft_zero, cut_zero]
  rw [← v1] at h
  have := shift _ _ _ _ h
  rw [Nat.shiftLeft_eq]
  have e1 : (k : Int) - ((1074 : Nat) : Int) = (k : Int) - 1074 := rfl
  have e2 : ((1074 : Nat) : Int) - (k : Int) = -((k : Int) - 1074) := by omega
  rw [e1, e2] at this
  rw [this, Nat.mul_div_cancel _ (Nat.two_pow_pos _)]

/-- A word by its sign and its place. -/
theorem word_of (x : Nat) (h : x < 2 ^ 64) : ∃ s r, r < 2 ^ 63 ∧ x = double.word s r := by
  by_cases hx : x < 2 ^ 63
  · exact ⟨false, x, hx, rfl⟩
  · exact ⟨true, x - 2 ^ 63, by omega, by unfold Format.word; rw [sw, if_pos rfl]; omega⟩

theorem sign_of (s : Bool) (r : Nat) (h : r < 2 ^ 63) : (double.word s r / double.signWeight % 2 == 1) = s := by
  unfold Format.word
  rw [sw]
  cases s
  · rw [if_neg (by simp)]
    have : r / 2 ^ 63 = 0 := by omega
    rw [this]; rfl
  · rw [if_pos rfl]
    have : (2 ^ 63 + r) / 2 ^ 63 % 2 = 1 := by omega
    rw [this]; rfl
theorem place_of (s : Bool) (r : Nat) (h : r < 2 ^ 63) : double.word s r % double.signWeight = r := by
  unfold Format.word
  rw [sw]
  cases s
  · rw [if_neg (by simp)]; omega
  · rw [if_pos rfl]; omega
theorem read_inf (s : Bool) : double.read (double.word s (2047 * 2 ^ 52)) = .infinity s := by cases s <;> decide
theorem read_nan (s : Bool) (r : Nat) (h : 2047 * 2 ^ 52 < r) (h' : r < 2 ^ 63) : double.read (double.word s r) = .nan s (r - 2047 * 2 ^ 52) := by
  simp only [Format.read, sign_of s r h', place_of s r h', bin, infR]
  rw [if_neg (by omega), if_neg (by omega), if_neg (by omega)]

/-- Where a float stands among all. -/
def key (s : Bool) (r : Nat) : Int := if s then -(r : Int) else r
def sv (s : Bool) (r : Nat) : Int := if s then -(wval r : Int) else wval r

theorem wval_pos (a : Nat) (h : 0 < a) : 0 < wval a := by
  have := wval_lt 0 a h
  omega
theorem wval_zero : wval 0 = 0 := by decide

theorem sv_lt (s t : Bool) (a b : Nat) : sv s a < sv t b ↔ key s a < key t b := by
  have hz := wval_zero
  have h1 : a < b ↔ wval a < wval b := ⟨wval_lt a b, fun h => by
    rcases Nat.lt_trichotomy a b with h' | h' | h'
    · exact h'
    · subst h'; omega
    · have := wval_lt b a h'; omega⟩
  have h2 : b < a ↔ wval b < wval a := ⟨wval_lt b a, fun h => by
    rcases Nat.lt_trichotomy a b with h' | h' | h'
    · have := wval_lt a b h'; omega
    · subst h'; omega
    · exact h'⟩
  have h3 : 0 < a ↔ 0 < wval a := ⟨wval_pos a, fun h => by
    rcases Nat.eq_zero_or_pos a with rfl | h'
    · omega
    · exact h'⟩
  have h4 : 0 < b ↔ 0 < wval b := ⟨wval_pos b, fun h => by
    rcases Nat.eq_zero_or_pos b with rfl | h'
    · omega
    · exact h'⟩
  cases s <;> cases t <;> simp only [sv, key, if_true, Bool.false_eq_true, if_false] <;> omega

theorem cmp_eq (x y x' y' : Int) (h1 : x < y ↔ x' < y') (h2 : y < x ↔ y' < x') : compare x y = compare x' y' := by
  simp only [compare, compareOfLessAndEq]
  by_cases h : x < y
  · rw [if_pos h, if_pos (h1.1 h)]
  · rw [if_neg h, if_neg (fun h' => h (h1.2 h'))]
    by_cases e : x = y
    · rw [if_pos e, if_pos (by omega)]
    · rw [if_neg e, if_neg (by omega)]

theorem signed_mul (s : Bool) (m k b : Nat) (h : b ≤ k) : signed s m (((k : Int) - 1074) - ((b : Int) - 1074)).toNat * (2 ^ b : Nat) = if s then -((m * 2 ^ k : Nat) : Int) else ((m * 2 ^ k : Nat) : Int) := by
  have := shl_to m k b h
  unfold signed
  cases s
  · simp only [Bool.false_eq_true, if_false]
    rw [← Int.natCast_mul, this]
  · simp only [if_true]
    rw [Int.neg_mul, ← Int.natCast_mul, this]

theorem order_key (s t : Bool) (a b : Nat) (ha : a ≤ 2047 * 2 ^ 52) (hb : b ≤ 2047 * 2 ^ 52) : double.order (double.word s a) (double.word t b) = some (compare (key s a) (key t b)) := by
  unfold Format.order
  by_cases ha' : a = 2047 * 2 ^ 52
  · subst ha'
    rw [read_inf]
    by_cases hb' : b = 2047 * 2 ^ 52
    · subst hb'
      rw [read_inf]
      cases s <;> cases t <;> rfl
    · obtain ⟨n, l, e2, v2, -⟩ := read_word t b (by omega)
      rw [e2]
      simp only [Datum.order]
      congr 1
      cases s <;> cases t <;> simp only [key, if_true, Bool.false_eq_true, if_false, compare, compareOfLessAndEq] <;> (first | (rw [if_pos (by omega)]; done) | (rw [if_neg (by omega), if_neg (by omega)]))
  · obtain ⟨m, k, e1, v1, -⟩ := read_word s a (by omega)
    rw [e1]
    by_cases hb' : b = 2047 * 2 ^ 52
    · subst hb'
      rw [read_inf]
      simp only [Datum.order]
      congr 1
      cases s <;> cases t <;> simp only [key, if_true, Bool.false_eq_true, if_false, compare, compareOfLessAndEq] <;> (first | (rw [if_pos (by omega)]; done) | (rw [if_neg (by omega), if_neg (by omega)]))
    · obtain ⟨n, l, e2, v2, -⟩ := read_word t b (by omega)
      rw [e2]
      simp only [Datum.order, min_place]
      congr 1
      have h1 := signed_mul s m k (min k l) (Nat.min_le_left _ _)
      have h2 := signed_mul t n l (min k l) (Nat.min_le_right _ _)
      rw [v1] at h1
      rw [v2] at h2
      generalize signed s m (((k : Int) - 1074) - (((min k l : Nat) : Int) - 1074)).toNat = X at *
      generalize signed t n (((l : Int) - 1074) - (((min k l : Nat) : Int) - 1074)).toNat = Y at *
      have hp : (0 : Int) < ((2 ^ min k l : Nat) : Int) := Int.natCast_pos.2 (Nat.two_pow_pos _)
      generalize ((2 ^ min k l : Nat) : Int) = P at *
      have h1' : X * P = sv s a := h1
      have h2' : Y * P = sv t b := h2
      refine cmp_eq _ _ _ _ ?_ ?_
      · rw [← sv_lt, ← h1', ← h2']
        exact ⟨fun h => Int.mul_lt_mul_of_pos_right h hp, fun h => Int.lt_of_mul_lt_mul_right h (by omega)⟩
      · rw [← sv_lt, ← h1', ← h2']
        exact ⟨fun h => Int.mul_lt_mul_of_pos_right h hp, fun h => Int.lt_of_mul_lt_mul_right h (by omega)⟩

theorem order_nan_l (s : Bool) (r y : Nat) (h : 2047 * 2 ^ 52 < r) (h' : r < 2 ^ 63) : double.order (double.word s r) y = none := by
  unfold Format.order
  rw [read_nan s r h h']
  rfl
theorem order_nan_r (s : Bool) (r y : Nat) (h : 2047 * 2 ^ 52 < r) (h' : r < 2 ^ 63) : double.order y (double.word s r) = none := by
  unfold Format.order
  rw [read_nan s r h h']
  cases double.read y <;> rfl
end Go.Proofs.YtoppccfgcccijaaDoor
/- Floats of 64 bits, by their bits: which are NaN, how two stand to each other, their ranks. No statement of its own; no conditions. -/

namespace Go.Proofs.YtoppccfgcccijaaDoor
open Ieee

/-- Whether bits are a NaN's. -/
def isN (x : Nat) : Bool := decide (9218868437227405312 < x % 9223372036854775808)
/-- Where a float that is no NaN stands among all. -/
def kx (x : Nat) : Int := if x < 9223372036854775808 then (x : Int) else 9223372036854775808 - x
/-- Its bits, all NaNs being one. -/
def fbits (x : Nat) : Nat := if isN x then 9221120237041090560 else x
/-- Its rank. -/
def frank (x : Nat) : Nat := if isN x then 18446744073709551615 else if x % 9223372036854775808 = 0 then 9223372036854775808 else if x < 9223372036854775808 then x + 9223372036854775808 else 18446744073709551615 - x

theorem isN_iff (x : Nat) : isN x = true ↔ 9218868437227405312 < x % 9223372036854775808 := by simp [isN]
theorem isN_not (x : Nat) : isN x = false ↔ x % 9223372036854775808 ≤ 9218868437227405312 := by simp [isN]

theorem word_pos (r : Nat) : double.word false r = r := rfl
theorem word_neg (r : Nat) : double.word true r = 9223372036854775808 + r := by unfold Format.word; rw [sw, if_pos rfl]

/-- A float by its sign and place. -/
theorem split_x (x : Nat) (h : x < 18446744073709551616) : ∃ s r, r < 9223372036854775808 ∧ x = double.word s r ∧ x % 9223372036854775808 = r ∧ kx x = key s r := by
  by_cases hx : x < 9223372036854775808
  · exact ⟨false, x, hx, rfl, by omega, by rw [kx, if_pos hx]; rfl⟩
  · refine ⟨true, x - 9223372036854775808, by omega, by rw [word_neg]; omega, by omega, ?_⟩
    rw [kx, if_neg hx, key, if_pos rfl]
    omega

theorem order_x (x y : Nat) (hx : x < 18446744073709551616) (hy : y < 18446744073709551616) (nx : isN x = false) (ny : isN y = false) : FloatKind.f64.format.order x y = some (compare (kx x) (kx y)) := by
  rw [isN_not] at nx ny
  obtain ⟨s, a, -, rfl, ea, ka⟩ := split_x x hx
  obtain ⟨t, b, -, rfl, eb, kb⟩ := split_x y hy
  rw [ka, kb]
  exact order_key s t a b (by omega) (by omega)
theorem order_l (x y : Nat) (hx : x < 18446744073709551616) (nx : isN x = true) : FloatKind.f64.format.order x y = none := by
  rw [isN_iff] at nx
  obtain ⟨s, a, h, rfl, ea, -⟩ := split_x x hx
  exact order_nan_l s a y (by omega) (by omega)
theorem order_r (x y : Nat) (hy : y < 18446744073709551616) (ny : isN y = true) : FloatKind.f64.format.order x y = none := by
  rw [isN_iff] at ny
  obtain ⟨s, a, h, rfl, ea, -⟩ := split_x y hy
  exact order_nan_r s a x (by omega) (by omega)

theorem order_lt (x y : Nat) (hx : x < 18446744073709551616) (hy : y < 18446744073709551616) (nx : isN x = false) (ny : isN y = false) (h : kx x < kx y) : FloatKind.f64.format.order x y = some .lt := by
  rw [order_x x y hx hy nx ny]
  congr 1
  simp only [compare, compareOfLessAndEq]
  rw [if_pos h]
theorem order_eq (x y : Nat) (hx : x < 18446744073709551616) (hy : y < 18446744073709551616) (nx : isN x = false) (ny : isN y = false) (h : kx x = kx y) : FloatKind.f64.format.order x y = some .eq := by
  rw [order_x x y hx hy nx ny]
  congr 1
  simp only [compare, compareOfLessAndEq]
  rw [if_neg (by omega), if_pos h]
theorem order_gt (x y : Nat) (hx : x < 18446744073709551616) (hy : y < 18446744073709551616) (nx : isN x = false) (ny : isN y = false) (h : kx y < kx x) : FloatKind.f64.format.order x y = some .gt := by
  rw [order_x x y hx hy nx ny]
  congr 1
  simp only [compare, compareOfLessAndEq]
  rw [if_neg (by omega), if_neg (by omega)]

theorem fbits_lt (x : Nat) (h : x < 18446744073709551616) : fbits x < 18446744073709551616 := by
  unfold fbits; split <;> omega
theorem frank_lt (x : Nat) (h : x < 18446744073709551616) : frank x < 18446744073709551616 := by
  unfold frank
  split
  · omega
  · split
    · omega
    · split <;> omega
end Go.Proofs.YtoppccfgcccijaaDoor
/- What halves, doubles, sums and cuts of floats give, in the steps that the specification takes. No statement of its own; no conditions. -/

namespace Go.Proofs.YtoppccfgcccijaaDoor
open Ieee

/-- The float c times 2^j least floats. -/
def F (c j : Nat) : Nat := rg (c * 2 ^ j)

theorem F_wval (c j : Nat) (hc : c < 2 ^ 53) (hj : j ≤ 2045) : wval (F c j) = c * 2 ^ j := (rep_of c j hc hj).2.1
theorem F_lt (c j : Nat) (hc : c < 2 ^ 53) (hj : j ≤ 2045) : F c j < 2047 * 2 ^ 52 := (rep_of c j hc hj).1
theorem F_of (r c j : Nat) (h : r < 2047 * 2 ^ 52) (e : wval r = c * 2 ^ j) : r = F c j := by rw [F, ← e, rg_wval r h]

theorem wval_norm (t f : Nat) (hf : f < 2 ^ 52) : wval ((t + 1) * 2 ^ 52 + f) = (2 ^ 52 + f) * 2 ^ t := by
  unfold wval
  have h1 : ¬ ((t + 1) * 2 ^ 52 + f < 2 ^ 52) := by omega
  have h2 : ((t + 1) * 2 ^ 52 + f) / 2 ^ 52 = t + 1 := by omega
  have h3 : ((t + 1) * 2 ^ 52 + f) % 2 ^ 52 = f := by omega
  rw [if_neg h1, h2, h3, Nat.add_sub_cancel]
theorem F_norm (t f : Nat) (hf : f < 2 ^ 52) (ht : t ≤ 2045) : F (2 ^ 52 + f) t = (t + 1) * 2 ^ 52 + f := (F_of _ _ _ (by omega) (wval_norm t f hf)).symm
theorem F_sub (f : Nat) (hf : f < 2 ^ 52) : F f 0 = f := (F_of f f 0 (by omega) (by rw [wval, if_pos hf, Nat.pow_zero, Nat.mul_one])).symm

theorem two_read : double.read 4611686018427387904 = .number false (2 ^ 52) (((1 : Nat) : Int) - 52) := by decide
theorem p52_read : double.read 4841369599423283200 = .number false (2 ^ 52) (((52 : Nat) : Int) - 52) := by decide
theorem two_F : 4611686018427387904 = F (2 ^ 52) 1023 := (F_norm 1023 0 (by omega) (by omega)).symm
theorem one_F : 4607182418800017408 = F (2 ^ 52) 1022 := (F_norm 1022 0 (by omega) (by omega)).symm
theorem p52_F : 4841369599423283200 = F (2 ^ 52) 1074 := (F_norm 1074 0 (by omega) (by omega)).symm

theorem half_F (c j : Nat) (hc : c < 2 ^ 53) (hj : j + 1 ≤ 2045) : double.div (F c (j + 1)) 4611686018427387904 = some (F c j) := by
  refine half_exact false 4611686018427387904 (F c (j + 1)) (F c j) 1 two_read (F_lt _ _ hc hj) (F_lt _ _ hc (by omega)) ?_
  rw [F_wval _ _ hc hj, F_wval _ _ hc (by omega), Nat.pow_succ, Nat.pow_one, Nat.mul_assoc]
theorem cut_F (c j : Nat) (hc : c < 2 ^ 53) (hj : j + 52 ≤ 2045) : double.div (F c (j + 52)) 4841369599423283200 = some (F c j) := by
  refine half_exact false 4841369599423283200 (F c (j + 52)) (F c j) 52 p52_read (F_lt _ _ hc hj) (F_lt _ _ hc (by omega)) ?_
  rw [F_wval _ _ hc hj, F_wval _ _ hc (by omega), Nat.pow_add, Nat.mul_assoc]
theorem pw (c j a b k d : Nat) (h : j + a + b = k + d) : c * 2 ^ j * (2 ^ a * 2 ^ b) = c * 2 ^ k * 2 ^ d := by
  rw [← Nat.pow_add, Nat.mul_assoc, Nat.mul_assoc, ← Nat.pow_add, ← Nat.pow_add, ← Nat.add_assoc, h]
theorem both (f a p : Nat) : f * p + a * p = (a + f) * p := by rw [Nat.add_mul, Nat.add_comm]
theorem decode_eq (b : Nat) : FloatKind.f64.decode b = double.read b := rfl
theorem double_F (c j : Nat) (hc : c < 2 ^ 53) (hj : j + 1 ≤ 2045) : double.mul (F c j) 4611686018427387904 = some (F c (j + 1)) := by
  have := mul_exact false false (F c j) (F (2 ^ 52) 1023) (F c (j + 1)) (F_lt _ _ hc (by omega)) (F_lt _ _ (by omega) (by omega)) (F_lt _ _ hc hj) (by
    rw [F_wval _ _ hc hj, F_wval _ _ hc (by omega), F_wval _ _ (by omega) (by omega)]
    exact pw c j 52 1023 (j + 1) 1074 (by omega))
  rw [← two_F] at this
  exact this
theorem lift_F (c j : Nat) (hc : c < 2 ^ 53) (hj : j + 52 ≤ 2045) : double.mul (F c j) 4841369599423283200 = some (F c (j + 52)) := by
  have := mul_exact false false (F c j) (F (2 ^ 52) 1074) (F c (j + 52)) (F_lt _ _ hc (by omega)) (F_lt _ _ (by omega) (by omega)) (F_lt _ _ hc hj) (by
    rw [F_wval _ _ hc hj, F_wval _ _ hc (by omega), F_wval _ _ (by omega) (by omega)]
    exact pw c j 52 1074 (j + 52) 1074 (by omega))
  rw [← p52_F] at this
  exact this
theorem less_F (f : Nat) (hf : f < 2 ^ 52) : double.sub (F (2 ^ 52 + f) 1022) 4607182418800017408 = some (F f 1022) := by
  rw [one_F]
  refine sub_exact _ _ _ (F_lt _ _ (by omega) (by omega)) (F_lt _ _ (by omega) (by omega)) (F_lt _ _ (by omega) (by omega)) ?_
  rw [F_wval _ _ (by omega) (by omega), F_wval _ _ (by omega) (by omega), F_wval _ _ (by omega) (by omega), Nat.add_mul]
theorem more_F (f : Nat) (hf : f < 2 ^ 52) : double.add (F f 1022) 4607182418800017408 = some (F (2 ^ 52 + f) 1022) := by
  rw [one_F]
  refine add_exact _ _ _ (F_lt _ _ (by omega) (by omega)) (F_lt _ _ (by omega) (by omega)) (F_lt _ _ (by omega) (by omega)) ?_
  rw [F_wval _ _ (by omega) (by omega), F_wval _ _ (by omega) (by omega), F_wval _ _ (by omega) (by omega)]
  generalize (2 : Nat) ^ 1022 = P
  exact both f _ P
theorem int_of (x n : Nat) (h : (double.read x).toInt .zero = some (n : Int)) (hn : n < 18446744073709551616) : floatToIntVal .f64 x .u64 = some (n : Int) := by
  rw [← decode_eq] at h
  unfold floatToIntVal
  rw [h]
  have e1 : IntKind.u64.min = 0 := by decide
  have e2 : IntKind.u64.max = 18446744073709551615 := by decide
  simp only [e1, e2]
  rw [if_pos (by omega)]
theorem int_F (f : Nat) (hf : f < 2 ^ 52) : floatToIntVal .f64 (F f 1074) .u64 = some (f : Int) :=
  int_of _ _ (toInt_exact (F f 1074) (F_lt _ _ (by omega) (by omega)) f (F_wval _ _ (by omega) (by omega))) (by omega)
theorem of_F (f : Nat) (hf : f < 2 ^ 53) : floatOfInt .f64 (f : Int) = F f 1074 := by
  unfold floatOfInt FloatKind.nearest FloatKind.encode
  have hn : decide ((f : Int) < 0) = false := decide_eq_false (by omega)
  rw [hn, Int.natAbs_natCast]
  exact write_by false f 0 (F f 1074) 1074 0 (F_lt _ _ hf (by omega)) (by omega) (by rw [F_wval _ _ hf (by omega), Nat.pow_zero, Nat.mul_one])
end Go.Proofs.YtoppccfgcccijaaDoor
/- The contracts of the program's FloatBits, FloatOf, FloatRank, FloatUnrank and FloatCompare. For every argument. -/







namespace Go.Proofs.YtoppccfgcccijaaDoor
open Go.RowKit

theorem isNaN_walk (x : Nat) (hx : x < 18446744073709551616) (w : World) :
    Calls Tryd.prog 66 #[.float .f64 x] w fun e w' => e = .returned (.bool (isN x)) ∧ w' = w := by
  by_cases hn : isN x = true
  · have o := order_l x x hx hn
    go_enter Tryd.func66, Tryd.ntmps66
    go_wp2
    go_ret
    exact ⟨by rw [hn]; rfl, rfl⟩
  · have hn' : isN x = false := by simpa using hn
    have o := order_eq x x hx hx hn' hn' rfl
    go_enter Tryd.func66, Tryd.ntmps66
    go_wp2
    go_ret
    exact ⟨by rw [hn']; rfl, rfl⟩

theorem frombits_run (n : Int) (w : World) : (callFunc 81 #[.int .u64 n]).run Tryd.prog w = .ok (.value (.float .f64 n.toNat)) w := by
  rw [run_callFunc_extern (P := Tryd.prog) Tryd.func81 (by kernel_rfl) (by kernel_rfl) (by kernel_rfl) (e := Extern.MathFloatBits.float64frombits) (by kernel_rfl)]
  rfl
theorem bits_run (x : Nat) (w : World) : (callFunc 67 #[.float .f64 x]).run Tryd.prog w = .ok (.value (.int .u64 x)) w := by
  rw [run_callFunc_extern (P := Tryd.prog) Tryd.func67 (by kernel_rfl) (by kernel_rfl) (by kernel_rfl) (e := Extern.MathFloatBits.float64bits) (by kernel_rfl)]
  rfl

theorem impl_FloatBits (x : Nat) (hx : x < 18446744073709551616) (w : World) :
    Calls Tryd.prog 52 #[.float .f64 x] w fun e w' => e = .returned (.int .u64 (fbits x)) ∧ w' = w := by
  have hb := bits_run x
  by_cases hn : isN x = true
  · have ef : fbits x = 9221120237041090560 := by rw [fbits, if_pos hn]
    go_enter Tryd.func52, Tryd.ntmps52
    go_wp2_with fail
    refine (isNaN_walk x hx w).mono ?_
    rintro e w1 ⟨rfl, rfl⟩
    go_wp2_with fail
    go_ret
    exact ⟨by rw [ef]; rfl, rfl⟩
  · have hn' : isN x = false := by simpa using hn
    have ef : fbits x = x := by rw [fbits, if_neg hn]
    go_enter Tryd.func52, Tryd.ntmps52
    go_wp2_with fail
    refine (isNaN_walk x hx w).mono ?_
    rintro e w1 ⟨rfl, rfl⟩
    go_wp2_with fail
    go_ret
    exact ⟨by rw [ef]; rfl, rfl⟩

theorem impl_FloatOf (x : Nat) (w : World) :
    Calls Tryd.prog 71 #[.int .u64 x] w fun e w' => e = .returned (.float .f64 x) ∧ w' = w := by
  have hb := frombits_run (x : Int)
  go_enter Tryd.func71, Tryd.ntmps71
  go_wp2_with fail
  go_ret
  exact ⟨rfl, rfl⟩

theorem not64 (x : Nat) (h : x < 18446744073709551616) : bits .xor .u64 IntKind.u64.max (x : Int) = ((18446744073709551615 - x : Nat) : Int) := by
  have e : IntKind.u64.max = ((18446744073709551615 : Nat) : Int) := by decide
  rw [e, u64_xor_nat _ _ (by omega) h]
  congr 1
  have h1 : (BitVec.allOnes 64 ^^^ BitVec.ofNat 64 x).toNat = 18446744073709551615 ^^^ x := by
    rw [BitVec.toNat_xor, BitVec.toNat_allOnes, BitVec.toNat_ofNat, Nat.mod_eq_of_lt h]
  rw [← h1, BitVec.allOnes_xor, BitVec.toNat_not, BitVec.toNat_ofNat, Nat.mod_eq_of_lt h]

theorem kx_zero : kx 0 = 0 := rfl
theorem isN_zero : isN 0 = false := by decide

/-- The bits that FloatUnrank turns to. -/
def back (k : Nat) : Nat := if 9223372036854775808 ≤ k then k - 9223372036854775808 else 18446744073709551615 - k
theorem back_lt (k : Nat) (h : k < 18446744073709551616) : back k < 18446744073709551616 := by unfold back; split <;> omega

def cmp3 (x y : Nat) : Int := if x < y then -1 else if y < x then 1 else 0

end Go.Proofs.YtoppccfgcccijaaDoor
/- The contract of the specification's FloatBits: it answers 'fbits', and leaves memory as it was. For every argument. -/


namespace Go.Proofs.YtoppccfgcccijaaDoor
open Go.RowKit Ieee

theorem kpos (a : Nat) (h : a ≤ 9218868437227405312) : a < 18446744073709551616 ∧ isN a = false ∧ kx a = a := by
  refine ⟨by omega, (isN_not a).2 (by omega), ?_⟩
  rw [kx, if_pos (by omega)]
theorem olt (a b : Nat) (ha : a ≤ 9218868437227405312) (hb : b ≤ 9218868437227405312) (h : a < b) : FloatKind.f64.format.order a b = some .lt :=
  order_lt a b (kpos a ha).1 (kpos b hb).1 (kpos a ha).2.1 (kpos b hb).2.1 (by rw [(kpos a ha).2.2, (kpos b hb).2.2]; omega)
theorem ogt (a b : Nat) (ha : a ≤ 9218868437227405312) (hb : b ≤ 9218868437227405312) (h : b < a) : FloatKind.f64.format.order a b = some .gt :=
  order_gt a b (kpos a ha).1 (kpos b hb).1 (kpos a ha).2.1 (kpos b hb).2.1 (by rw [(kpos a ha).2.2, (kpos b hb).2.2]; omega)
theorem oeq (a : Nat) (ha : a ≤ 9218868437227405312) : FloatKind.f64.format.order a a = some .eq :=
  order_eq a a (kpos a ha).1 (kpos a ha).1 (kpos a ha).2.1 (kpos a ha).2.1 rfl

theorem dval (r : Nat) (h : r < 9218868437227405312) (h1 : 4503599627370496 ≤ r) : ∃ t f, f < 2 ^ 52 ∧ t ≤ 2045 ∧ r = (t + 1) * 2 ^ 52 + f ∧ r = F (2 ^ 52 + f) t := by
  refine ⟨r / 4503599627370496 - 1, r % 4503599627370496, by omega, by omega, by omega, ?_⟩
  rw [F_norm _ _ (by omega) (by omega)]
  omega

theorem half_r (r : Nat) (h1 : 4611686018427387904 ≤ r) (h2 : r < 9218868437227405312) : floatBits .quo .f64 r 4611686018427387904 = some (r - 4503599627370496) := by
  obtain ⟨t, f, hf, ht, e1, e2⟩ := dval r h2 (by omega)
  obtain ⟨u, rfl⟩ : ∃ u, t = u + 1 := ⟨t - 1, by omega⟩
  have := half_F (2 ^ 52 + f) u (by omega) (by omega)
  rw [← e2, F_norm u f hf (by omega)] at this
  rw [show r - 4503599627370496 = (u + 1) * 2 ^ 52 + f by omega]
  exact this

theorem F_suc (c j : Nat) (hc : c < 2 ^ 53) (hj : j + 1 ≤ 2045) : wval (F c (j + 1)) = wval (F c j) * 2 := by
  rw [F_wval _ _ hc hj, F_wval _ _ hc (by omega), Nat.pow_succ, Nat.mul_assoc]
theorem two_F' : 4611686018427387904 = F (2 ^ 52) (1022 + 1) := (F_norm (1022 + 1) 0 (by omega) (by omega)).symm
theorem wval_le (a b : Nat) (h : wval a < wval b) : a < b := by
  rcases Nat.lt_or_ge a b with h' | h'
  · exact h'
  · rcases Nat.lt_or_eq_of_le h' with h'' | h''
    · have := wval_lt b a h''; omega
    · subst h''; omega

theorem dbl_r (r : Nat) (h : r < 4607182418800017408) : ∃ q, floatBits .mul .f64 r 4611686018427387904 = some q ∧ wval q = wval r * 2 ∧ q < 4611686018427387904 := by
  have main : ∃ c j, c < 2 ^ 53 ∧ j + 1 ≤ 2045 ∧ r = F c j := by
    by_cases h1 : 4503599627370496 ≤ r
    · obtain ⟨t, f, hf, ht, e1, e2⟩ := dval r (by omega) h1
      exact ⟨2 ^ 52 + f, t, by omega, by omega, e2⟩
    · exact ⟨r, 0, by omega, by omega, (F_sub r (by omega)).symm⟩
  obtain ⟨c, j, hc, hj, e⟩ := main
  have hm := double_F c j hc hj
  rw [← e] at hm
  have hv : wval (F c (j + 1)) = wval r * 2 := by
    rw [e, F_wval _ _ hc hj, F_wval _ _ hc (by omega), Nat.pow_succ, Nat.mul_assoc]
  refine ⟨_, hm, hv, ?_⟩
  apply wval_le
  rw [hv]
  have h1 : wval r < wval 4607182418800017408 := wval_lt _ _ h
  have h2 : wval 4611686018427387904 = wval 4607182418800017408 * 2 := by
    rw [two_F', one_F]
    exact F_suc _ _ (by omega) (by omega)
  omega

/-- The end of it, above 1. -/
theorem top_r (r k j q : Nat) (hq1 : 4607182418800017408 ≤ q) (hq2 : q < 4611686018427387904) (hj : j ≤ 1022)
    (h : (k = 0 ∧ wval q = wval r * 2 ^ j) ∨ (j = 0 ∧ r = q + k * 4503599627370496)) :
    ∃ f : Nat, f < 4503599627370496 ∧ r = (k + 1023 - j) * 4503599627370496 + f ∧ floatBits .sub .f64 q 4607182418800017408 = some (F f 1022) ∧ floatBits .mul .f64 (F f 1022) 4841369599423283200 = some (F f 1074) ∧ floatToIntVal .f64 (F f 1074) .u64 = some (f : Int) := by
  refine ⟨q - 4607182418800017408, by omega, ?_, ?_, lift_F _ 1022 (by omega) (by omega), int_F _ (by omega)⟩
  · rcases h with ⟨rfl, h⟩ | ⟨rfl, h⟩
    · obtain ⟨t, ht⟩ : ∃ t, 1023 - j = t + 1 := ⟨1022 - j, by omega⟩
      have e1 : wval q = (2 ^ 52 + (q - 4607182418800017408)) * 2 ^ 1022 := by
        have e0 := wval_norm 1022 (q - 4607182418800017408) (by omega)
        rwa [show (1022 + 1) * 2 ^ 52 + (q - 4607182418800017408) = q by omega] at e0
      have e2 := wval_norm t (q - 4607182418800017408) (by omega)
      have e3 : (2 : Nat) ^ 1022 = 2 ^ t * 2 ^ j := by rw [show (1022 : Nat) = t + j by omega, Nat.pow_add]
      rw [e1, e3, ← Nat.mul_assoc, ← e2] at h
      have := wval_inj _ _ (Nat.eq_of_mul_eq_mul_right (Nat.two_pow_pos j) h)
      rw [← this]
      omega
    · omega
  · have hs := less_F (q - 4607182418800017408) (by omega)
    rw [F_norm _ _ (by omega) (by omega)] at hs
    rw [show (1022 + 1) * 2 ^ 52 + (q - 4607182418800017408) = q by omega] at hs
    exact hs

/-- The end of it, below 1. -/
theorem low_r (r q : Nat) (hq : q < 4607182418800017408) (h : wval q = wval r * 2 ^ 1022) :
    r < 4503599627370496 ∧ floatBits .mul .f64 q 4841369599423283200 = some (F r 1074) ∧ floatToIntVal .f64 (F r 1074) .u64 = some (r : Int) := by
  have h1 : wval q < wval 4607182418800017408 := wval_lt _ _ hq
  have h2 : wval 4607182418800017408 = wval 4503599627370496 * 2 ^ 1022 := by
    rw [one_F, F_wval _ _ (by omega) (by omega), show wval 4503599627370496 = 2 ^ 52 by decide]
  have hlt : r < 4503599627370496 := by
    apply wval_le
    rw [h, h2] at h1
    exact Nat.lt_of_mul_lt_mul_right h1
  have hv : wval r = r := by rw [wval, if_pos hlt]
  rw [hv] at h
  have e : q = F r 1022 := F_of q r 1022 (by omega) h
  refine ⟨hlt, ?_, int_F r hlt⟩
  rw [e]
  exact lift_F r 1022 (by omega) (by omega)
end Go.Proofs.YtoppccfgcccijaaDoor
/- The contract of the specification's FloatBits: it answers 'fbits', and leaves memory as it was. For every argument. -/

namespace Go.Proofs.YtoppccfgcccijaaDoor
open Go.RowKit Ieee

/-- The bits in a float's cell. -/
def fl : Value → Nat
  | .float _ b => b
  | _ => 0

theorem or_pos (x : Nat) (h : x < 9223372036854775808) : bits .or .u64 0 (x : Int) = ((x : Nat) : Int) := by
  have := u64_or_nat 0 x (by omega) (by omega)
  rw [Nat.zero_or] at this
  exact this
theorem or_neg (x : Nat) (h : x < 9223372036854775808) : bits .or .u64 9223372036854775808 (x : Int) = ((9223372036854775808 + x : Nat) : Int) := by
  have := u64_or_nat 9223372036854775808 x (by omega) (by omega)
  rw [nat_join 63 _ _ (by decide) (by omega)] at this
  exact this
theorem or_low (s e f : Nat) (hs : s = 0 ∨ s = 9223372036854775808) (he : e < 2048) (hf : f < 4503599627370496) : bits .or .u64 ((s + e * 4503599627370496 : Nat) : Int) (f : Int) = ((s + (e * 4503599627370496 + f) : Nat) : Int) := by
  rw [u64_or_nat _ _ (by omega) (by omega), nat_join 52 _ _ (by omega) (by omega), Nat.add_assoc]

theorem top_pos (r k j f : Nat) (hj : j ≤ 1022) (hk : k ≤ 1023) (hf : f < 4503599627370496) (e : r = (k + 1023 - j) * 4503599627370496 + f) :
    bits .or .u64 (bits .or .u64 0 (((k : Int) - j + 1023) * 4503599627370496)) (f : Int) = (r : Int) := by
  rw [show ((k : Int) - j + 1023) * 4503599627370496 = (((k + 1023 - j) * 4503599627370496 : Nat) : Int) by omega, or_pos _ (by omega)]
  have := or_low 0 (k + 1023 - j) f (.inl rfl) (by omega) hf
  rw [Nat.zero_add, Nat.zero_add, ← e] at this
  exact this
theorem top_neg (r k j f : Nat) (hj : j ≤ 1022) (hk : k ≤ 1023) (hf : f < 4503599627370496) (e : r = (k + 1023 - j) * 4503599627370496 + f) :
    bits .or .u64 (bits .or .u64 9223372036854775808 (((k : Int) - j + 1023) * 4503599627370496)) (f : Int) = ((9223372036854775808 + r : Nat) : Int) := by
  rw [show ((k : Int) - j + 1023) * 4503599627370496 = (((k + 1023 - j) * 4503599627370496 : Nat) : Int) by omega, or_neg _ (by omega)]
  rw [or_low 9223372036854775808 (k + 1023 - j) f (.inr rfl) (by omega) hf, ← e]

theorem neg_bits (r : Nat) (h : r < 9223372036854775808) : Op.negFloat .f64 (9223372036854775808 + r) = r := by
  unfold Op.negFloat
  rw [show 2 ^ (FloatKind.f64.format.exponentBits + FloatKind.f64.format.fractionBits) = 2 ^ 63 from rfl]
  have e : 9223372036854775808 + r = 2 ^ 63 ||| r := (nat_join 63 _ _ (by decide) (by omega)).symm
  rw [e]
  apply Nat.eq_of_testBit_eq
  intro i
  rw [Nat.testBit_xor, Nat.testBit_or, Nat.testBit_two_pow]
  by_cases hi : 63 = i
  · subst hi
    rw [Nat.testBit_lt_two_pow h]
    rfl
  · simp [hi]

theorem neg_run (x y : Nat) (h : Op.negFloat .f64 x = y) (w : World) : (Op.unary .neg (.float .f64 x)).run Tryd.prog w = .ok (.float .f64 y) w := by
  subst h
  rfl

set_option maxRecDepth 100000 in
set_option maxHeartbeats 1600000 in
theorem spec_FloatBits_pos (r : Nat) (h0 : 0 < r) (h1 : r < 9218868437227405312) (w : World) :
    Calls Tryd.prog 30 #[.float .f64 (r)] w fun e w' => e = .returned (.int .u64 ((r : Nat) : Int)) ∧ w' = w := by
  have o1 := oeq r (by omega)
  have o3 := ogt r 0 (by omega) (by omega) h0
  have o4 : FloatKind.f64.format.order r 9218868437227405311 = some .lt ∨ FloatKind.f64.format.order r 9218868437227405311 = some .eq := by
    by_cases h : r = 9218868437227405311
    · exact .inr (by rw [h]; exact oeq _ (by omega))
    · exact .inl (olt _ _ (by omega) (by omega) (by omega))
  have H0 := hid h0
  have H1 := hid h1
  clear h0 h1
  rcases o4 with o4 | o4
  all_goals
    go_enter Tryd.func30, Tryd.ntmps30
    go_wp2
    clear o1 o3 o4
    go_loopw [4, 5] (fun a e wr => ∃ q k : Nat, a = .float .f64 q ∧ e = .int .i64 k ∧ Hid (r = q + k * 4503599627370496) ∧ Hid (k = 0 ∨ 4607182418800017408 ≤ q) ∧ Hid (k ≤ 1023) ∧ wr = w) (fun a _ _ => fl a)
    case atStart => exact ⟨r, 0, rfl, rfl, hid (by omega), hid (.inl rfl), hid (by omega), rfl⟩
    case round =>
      obtain ⟨q, k, rfl, rfl, P1, P2, P3, rfl⟩ := hrel
      have hq : q < 9218868437227405312 := by have := P1.out; have := H1.out; omega
      by_cases hge : 4611686018427387904 ≤ q
      · obtain ⟨p, hp, ep⟩ : ∃ p, floatBits .quo .f64 q 4611686018427387904 = some p ∧ Hid (q = p + 4503599627370496) := ⟨_, half_r q hge hq, hid (by omega)⟩
        have hd := fun t w => run_float_arith (P := Tryd.prog) w .quo t .f64 q 4611686018427387904 _ hp
        have oo : FloatKind.f64.format.order q 4611686018427387904 = some .gt ∨ FloatKind.f64.format.order q 4611686018427387904 = some .eq := by
          by_cases h : q = 4611686018427387904
          · exact .inr (by rw [h]; exact oeq _ (by omega))
          · exact .inl (ogt _ _ (by omega) (by omega) (by omega))
        have Q1 := hid hge
        have Q2 := hid hq
        have hk : (k : Int) ≤ 1023 := by have := P3.out; omega
        clear hge hq hp
        rcases oo with oo | oo
        all_goals
          go_wp2
          go_roundw
          case rel => exact ⟨p, k + 1, rfl, by go_num, hid (by have := P1.out; have := ep.out; omega), hid (.inr (by have := Q1.out; have := ep.out; omega)), hid (by have := P1.out; have := P3.out; have := Q1.out; have := H1.out; omega), by first | trivial | rfl⟩
          case measure => have := ep.out; simp only [fl]; omega
      · have oo := olt q 4611686018427387904 (by omega) (by omega) (by omega)
        have Q1 := hid hge
        have Q2 := hid hq
        have hk : (k : Int) ≤ 1023 := by have := P3.out; omega
        clear hge hq
        go_wp2
        clear oo
        go_loopw [4, 5] (fun a e wr' => ∃ p j : Nat, a = .float .f64 p ∧ e = .int .i64 ((k : Int) - j) ∧ Hid ((k = 0 ∧ wval p = wval q * 2 ^ j) ∨ (j = 0 ∧ p = q ∧ 4607182418800017408 ≤ q)) ∧ Hid (p < 4611686018427387904) ∧ Hid (j ≤ 1022) ∧ wr' = wr) (fun _ e _ => (intOf e + 1022).toNat)
        case atStart => exact ⟨q, 0, rfl, by go_num, hid (by
          rcases P2.out with h | h
          · exact .inl ⟨h, by rw [Nat.pow_zero, Nat.mul_one]⟩
          · exact .inr ⟨rfl, rfl, h⟩), hid (by have := Q1.out; omega), hid (by omega), rfl⟩
        case round =>
          obtain ⟨p, j, rfl, rfl, R1, R2, R3, rfl⟩ := hrel
          have hj : (j : Int) ≤ 1022 := by have := R3.out; omega
          by_cases hlt : p < 4607182418800017408
          · have R1' : Hid (k = 0 ∧ wval p = wval q * 2 ^ j) := by
              rcases R1.out with h | h
              · exact h
              · exact absurd h.2.2 (by have := h.2.1; omega)
            have ol := olt p 4607182418800017408 (by omega) (by omega) hlt
            have hk0 : (k : Int) = 0 := by have := R1'.out.1; omega
            by_cases h22 : j = 1022
            · obtain ⟨a1, a2, a3⟩ := low_r q p hlt (by have := R1'.out.2; rw [h22] at this; exact this)
              have hm := fun t w => run_float_arith (P := Tryd.prog) w .mul t .f64 p 4841369599423283200 _ a2
              have hc := fun w => run_convert_float_int (P := Tryd.prog) w 22 54 .f64 .u64 _ (q : Int) (by rw [Tryd.underlying22]; rfl) Tryd.underlying54 a3
              have hor := or_pos q (by omega)
              have ht : ¬ (-1022 : Int) < (k : Int) - j := by omega
              have A1 := hid (show r = q by have := P1.out; have := R1'.out.1; subst this; omega)
              generalize F q 1074 = y at *
              clear a1 a2 a3 hlt h22 hk0
              go_wp2
              go_ret
              exact ⟨by rw [A1.out]; rfl, rfl⟩
            · obtain ⟨p', b1, b2, b3⟩ := dbl_r p hlt
              have hm := fun t w => run_float_arith (P := Tryd.prog) w .mul t .f64 p 4611686018427387904 _ b1
              have ht : (-1022 : Int) < (k : Int) - j := by omega
              have B2 := hid b2
              have B3 := hid b3
              have H22 := hid h22
              clear b1 b2 b3 hlt h22 hk0
              go_wp2
              go_roundw
              case rel => exact ⟨p', j + 1, rfl, by go_num, hid (.inl ⟨R1'.out.1, by rw [B2.out, R1'.out.2, Nat.pow_succ, Nat.mul_assoc]⟩), B3, hid (by have := R3.out; have := H22.out; omega), by first | trivial | rfl⟩
              case measure => simp [intOf]; omega
          · obtain ⟨f, c1, c2, c3, c4, c5⟩ := top_r r k j p (by omega) R2.out R3.out (by
              rcases R1.out with h | h
              · refine .inl ⟨h.1, ?_⟩
                have := P1.out
                rw [h.1, Nat.zero_mul, Nat.add_zero] at this
                rw [this]
                exact h.2
              · exact .inr ⟨h.1, by rw [h.2.1]; exact P1.out⟩)
            have oo : FloatKind.f64.format.order p 4607182418800017408 = some .gt ∨ FloatKind.f64.format.order p 4607182418800017408 = some .eq := by
              have := R2.out
              by_cases h : p = 4607182418800017408
              · exact .inr (by rw [h]; exact oeq _ (by omega))
              · exact .inl (ogt _ _ (by omega) (by omega) (by omega))
            have hs := fun t w => run_float_arith (P := Tryd.prog) w .sub t .f64 p 4607182418800017408 _ c3
            have hm := fun t w => run_float_arith (P := Tryd.prog) w .mul t .f64 _ 4841369599423283200 _ c4
            have hc := fun w => run_convert_float_int (P := Tryd.prog) w 22 54 .f64 .u64 _ (f : Int) (by rw [Tryd.underlying22]; rfl) Tryd.underlying54 c5
            have hk0 : (0 : Int) ≤ (k : Int) := by omega
            have hj0 : (0 : Int) ≤ (j : Int) := by omega
            have C1 := hid c1
            have C2 := hid c2
            generalize F f 1022 = y at *
            generalize F f 1074 = y' at *
            clear c1 c2 c3 c4 c5 hlt
            rcases oo with oo | oo
            all_goals
              go_wp2
              go_ret
              exact ⟨by rw [← top_pos r k j f R3.out P3.out C1.out C2.out]; rfl, rfl⟩

set_option maxRecDepth 100000 in
set_option maxHeartbeats 1600000 in
theorem spec_FloatBits_neg (r : Nat) (h0 : 0 < r) (h1 : r < 9218868437227405312) (w : World) :
    Calls Tryd.prog 30 #[.float .f64 (9223372036854775808 + r)] w fun e w' => e = .returned (.int .u64 ((9223372036854775808 + r : Nat) : Int)) ∧ w' = w := by
  have o1 : FloatKind.f64.format.order (9223372036854775808 + r) (9223372036854775808 + r) = some .eq := order_eq _ _ (by omega) (by omega) ((isN_not _).2 (by omega)) ((isN_not _).2 (by omega)) rfl
  have o2 : FloatKind.f64.format.order (9223372036854775808 + r) 0 = some .lt := order_lt _ _ (by omega) (by omega) ((isN_not _).2 (by omega)) isN_zero (by rw [kx_zero, kx, if_neg (by omega)]; omega)
  have on := neg_run (9223372036854775808 + r) r (neg_bits r (by omega))
  have o3 := ogt r 0 (by omega) (by omega) h0
  have o4 : FloatKind.f64.format.order r 9218868437227405311 = some .lt ∨ FloatKind.f64.format.order r 9218868437227405311 = some .eq := by
    by_cases h : r = 9218868437227405311
    · exact .inr (by rw [h]; exact oeq _ (by omega))
    · exact .inl (olt _ _ (by omega) (by omega) (by omega))
  have H0 := hid h0
  have H1 := hid h1
  clear h0 h1
  rcases o4 with o4 | o4
  all_goals
    go_enter Tryd.func30, Tryd.ntmps30
    go_wp2
    clear o1 o2 o3 o4 on
    go_loopw [4, 5] (fun a e wr => ∃ q k : Nat, a = .float .f64 q ∧ e = .int .i64 k ∧ Hid (r = q + k * 4503599627370496) ∧ Hid (k = 0 ∨ 4607182418800017408 ≤ q) ∧ Hid (k ≤ 1023) ∧ wr = w) (fun a _ _ => fl a)
    case atStart => exact ⟨r, 0, rfl, rfl, hid (by omega), hid (.inl rfl), hid (by omega), rfl⟩
    case round =>
      obtain ⟨q, k, rfl, rfl, P1, P2, P3, rfl⟩ := hrel
      have hq : q < 9218868437227405312 := by have := P1.out; have := H1.out; omega
      by_cases hge : 4611686018427387904 ≤ q
      · obtain ⟨p, hp, ep⟩ : ∃ p, floatBits .quo .f64 q 4611686018427387904 = some p ∧ Hid (q = p + 4503599627370496) := ⟨_, half_r q hge hq, hid (by omega)⟩
        have hd := fun t w => run_float_arith (P := Tryd.prog) w .quo t .f64 q 4611686018427387904 _ hp
        have oo : FloatKind.f64.format.order q 4611686018427387904 = some .gt ∨ FloatKind.f64.format.order q 4611686018427387904 = some .eq := by
          by_cases h : q = 4611686018427387904
          · exact .inr (by rw [h]; exact oeq _ (by omega))
          · exact .inl (ogt _ _ (by omega) (by omega) (by omega))
        have Q1 := hid hge
        have Q2 := hid hq
        have hk : (k : Int) ≤ 1023 := by have := P3.out; omega
        clear hge hq hp
        rcases oo with oo | oo
        all_goals
          go_wp2
          go_roundw
          case rel => exact ⟨p, k + 1, rfl, by go_num, hid (by have := P1.out; have := ep.out; omega), hid (.inr (by have := Q1.out; have := ep.out; omega)), hid (by have := P1.out; have := P3.out; have := Q1.out; have := H1.out; omega), by first | trivial | rfl⟩
          case measure => have := ep.out; simp only [fl]; omega
      · have oo := olt q 4611686018427387904 (by omega) (by omega) (by omega)
        have Q1 := hid hge
        have Q2 := hid hq
        have hk : (k : Int) ≤ 1023 := by have := P3.out; omega
        clear hge hq
        go_wp2
        clear oo
        go_loopw [4, 5] (fun a e wr' => ∃ p j : Nat, a = .float .f64 p ∧ e = .int .i64 ((k : Int) - j) ∧ Hid ((k = 0 ∧ wval p = wval q * 2 ^ j) ∨ (j = 0 ∧ p = q ∧ 4607182418800017408 ≤ q)) ∧ Hid (p < 4611686018427387904) ∧ Hid (j ≤ 1022) ∧ wr' = wr) (fun _ e _ => (intOf e + 1022).toNat)
        case atStart => exact ⟨q, 0, rfl, by go_num, hid (by
          rcases P2.out with h | h
          · exact .inl ⟨h, by rw [Nat.pow_zero, Nat.mul_one]⟩
          · exact .inr ⟨rfl, rfl, h⟩), hid (by have := Q1.out; omega), hid (by omega), rfl⟩
        case round =>
          obtain ⟨p, j, rfl, rfl, R1, R2, R3, rfl⟩ := hrel
          have hj : (j : Int) ≤ 1022 := by have := R3.out; omega
          by_cases hlt : p < 4607182418800017408
          · have R1' : Hid (k = 0 ∧ wval p = wval q * 2 ^ j) := by
              rcases R1.out with h | h
              · exact h
              · exact absurd h.2.2 (by have := h.2.1; omega)
            have ol := olt p 4607182418800017408 (by omega) (by omega) hlt
            have hk0 : (k : Int) = 0 := by have := R1'.out.1; omega
            by_cases h22 : j = 1022
            · obtain ⟨a1, a2, a3⟩ := low_r q p hlt (by have := R1'.out.2; rw [h22] at this; exact this)
              have hm := fun t w => run_float_arith (P := Tryd.prog) w .mul t .f64 p 4841369599423283200 _ a2
              have hc := fun w => run_convert_float_int (P := Tryd.prog) w 22 54 .f64 .u64 _ (q : Int) (by rw [Tryd.underlying22]; rfl) Tryd.underlying54 a3
              have hor := or_neg q (by omega)
              have ht : ¬ (-1022 : Int) < (k : Int) - j := by omega
              have A1 := hid (show r = q by have := P1.out; have := R1'.out.1; subst this; omega)
              generalize F q 1074 = y at *
              clear a1 a2 a3 hlt h22 hk0
              go_wp2
              go_ret
              exact ⟨by rw [A1.out]; rfl, rfl⟩
            · obtain ⟨p', b1, b2, b3⟩ := dbl_r p hlt
              have hm := fun t w => run_float_arith (P := Tryd.prog) w .mul t .f64 p 4611686018427387904 _ b1
              have ht : (-1022 : Int) < (k : Int) - j := by omega
              have B2 := hid b2
              have B3 := hid b3
              have H22 := hid h22
              clear b1 b2 b3 hlt h22 hk0
              go_wp2
              go_roundw
              case rel => exact ⟨p', j + 1, rfl, by go_num, hid (.inl ⟨R1'.out.1, by rw [B2.out, R1'.out.2, Nat.pow_succ, Nat.mul_assoc]⟩), B3, hid (by have := R3.out; have := H22.out; omega), by first | trivial | rfl⟩
              case measure => simp [intOf]; omega
          · obtain ⟨f, c1, c2, c3, c4, c5⟩ := top_r r k j p (by omega) R2.out R3.out (by
              rcases R1.out with h | h
              · refine .inl ⟨h.1, ?_⟩
                have := P1.out
                rw [h.1, Nat.zero_mul, Nat.add_zero] at this
                rw [this]
                exact h.2
              · exact .inr ⟨h.1, by rw [h.2.1]; exact P1.out⟩)
            have oo : FloatKind.f64.format.order p 4607182418800017408 = some .gt ∨ FloatKind.f64.format.order p 4607182418800017408 = some .eq := by
              have := R2.out
              by_cases h : p = 4607182418800017408
              · exact .inr (by rw [h]; exact oeq _ (by omega))
              · exact .inl (ogt _ _ (by omega) (by omega) (by omega))
            have hs := fun t w => run_float_arith (P := Tryd.prog) w .sub t .f64 p 4607182418800017408 _ c3
            have hm := fun t w => run_float_arith (P := Tryd.prog) w .mul t .f64 _ 4841369599423283200 _ c4
            have hc := fun w => run_convert_float_int (P := Tryd.prog) w 22 54 .f64 .u64 _ (f : Int) (by rw [Tryd.underlying22]; rfl) Tryd.underlying54 c5
            have hk0 : (0 : Int) ≤ (k : Int) := by omega
            have hj0 : (0 : Int) ≤ (j : Int) := by omega
            have C1 := hid c1
            have C2 := hid c2
            generalize F f 1022 = y at *
            generalize F f 1074 = y' at *
            clear c1 c2 c3 c4 c5 hlt
            rcases oo with oo | oo
            all_goals
              go_wp2
              go_ret
              exact ⟨by rw [← top_neg r k j f R3.out P3.out C1.out C2.out]; rfl, rfl⟩

/-- Both noughts, both infinities, NaN. -/
theorem spec_FloatBits_rest (x : Nat) (w : World) (hx : x = 0 ∨ x = 9223372036854775808 ∨ x = 9218868437227405312 ∨ x = 18442240474082181120) :
    Calls Tryd.prog 30 #[.float .f64 x] w fun e w' => e = .returned (.int .u64 (x : Int)) ∧ w' = w := by
  have d1 := fun t w => run_float_arith (P := Tryd.prog) w .quo t .f64 4607182418800017408 0 9218868437227405312 (by decide)
  have d2 := fun t w => run_float_arith (P := Tryd.prog) w .quo t .f64 4607182418800017408 9223372036854775808 18442240474082181120 (by decide)
  have o1 : FloatKind.f64.format.order 0 0 = some .eq := by decide
  have o2 : FloatKind.f64.format.order 9223372036854775808 0 = some .eq := by decide
  have o3 : FloatKind.f64.format.order 9218868437227405312 0 = some .gt := by decide
  have o4 : FloatKind.f64.format.order 18442240474082181120 0 = some .lt := by decide
  have o5 : FloatKind.f64.format.order 9223372036854775808 9223372036854775808 = some .eq := by decide
  have o6 : FloatKind.f64.format.order 9218868437227405312 9218868437227405312 = some .eq := by decide
  have o7 : FloatKind.f64.format.order 18442240474082181120 18442240474082181120 = some .eq := by decide
  have o8 : FloatKind.f64.format.order 9218868437227405312 9218868437227405311 = some .gt := by decide
  have n1 := neg_run 9223372036854775808 0 (by decide)
  have n2 := neg_run 18442240474082181120 9218868437227405312 (by decide)
  have b1 : bits .or .u64 0 9218868437227405312 = 9218868437227405312 := or_pos 9218868437227405312 (by omega)
  have b2 : bits .or .u64 9223372036854775808 9218868437227405312 = 18442240474082181120 := or_neg 9218868437227405312 (by omega)
  rcases hx with rfl | rfl | rfl | rfl
  all_goals
    go_enter Tryd.func30, Tryd.ntmps30
    go_wp2
    go_ret
    exact ⟨rfl, rfl⟩

theorem spec_FloatBits_nan (x : Nat) (hx : x < 18446744073709551616) (hn : isN x = true) (w : World) :
    Calls Tryd.prog 30 #[.float .f64 x] w fun e w' => e = .returned (.int .u64 9221120237041090560) ∧ w' = w := by
  have o := order_l x x hx hn
  clear hx hn
  go_enter Tryd.func30, Tryd.ntmps30
  go_wp2
  go_ret
  exact ⟨rfl, rfl⟩

theorem spec_FloatBits (x : Nat) (hx : x < 18446744073709551616) (w : World) :
    Calls Tryd.prog 30 #[.float .f64 x] w fun e w' => e = .returned (.int .u64 (fbits x : Int)) ∧ w' = w := by
  by_cases hn : isN x = true
  · rw [fbits, if_pos hn]
    exact spec_FloatBits_nan x hx hn w
  · have hn' : isN x = false := by simpa using hn
    rw [isN_not] at hn'
    rw [fbits, if_neg hn]
    by_cases h4 : x = 0 ∨ x = 9223372036854775808 ∨ x = 9218868437227405312 ∨ x = 18442240474082181120
    · exact spec_FloatBits_rest x w h4
    · by_cases hp : x < 9223372036854775808
      · exact spec_FloatBits_pos x (by omega) (by omega) w
      · obtain ⟨r, rfl⟩ : ∃ r, x = 9223372036854775808 + r := ⟨x - 9223372036854775808, by omega⟩
        exact spec_FloatBits_neg r (by omega) (by omega) w
end Go.Proofs.YtoppccfgcccijaaDoor
/- The contract of the specification's FloatOf: the float with the bits, or some NaN where they are a NaN's; memory stays as it was. For every argument. -/


namespace Go.Proofs.YtoppccfgcccijaaDoor
open Go.RowKit Ieee

theorem neg_bits' (r : Nat) (h : r < 9223372036854775808) : Op.negFloat .f64 r = 9223372036854775808 + r := by
  unfold Op.negFloat
  rw [show 2 ^ (FloatKind.f64.format.exponentBits + FloatKind.f64.format.fractionBits) = 2 ^ 63 from rfl]
  have e : 9223372036854775808 + r = 2 ^ 63 ||| r := (nat_join 63 _ _ (by decide) (by omega)).symm
  rw [e]
  apply Nat.eq_of_testBit_eq
  intro i
  rw [Nat.testBit_xor, Nat.testBit_or, Nat.testBit_two_pow]
  by_cases hi : 63 = i
  · subst hi
    rw [Nat.testBit_lt_two_pow h]
    rfl
  · simp [hi]

/-- A NaN that an operation hands back. -/
theorem nan_run (op : BinOp) (t : TypeId) (x y : Nat) (ho : op = .add ∨ op = .sub ∨ op = .mul ∨ op = .quo) (h : floatBits op .f64 x y = none) (w : World) : ∃ n, (binOp op t (.float .f64 x) (.float .f64 y)).run Tryd.prog w = .ok (.float .f64 n) w.drew ∧ isN n = true ∧ n < 18446744073709551616 := by
  refine ⟨Question.cut (.nanBits .f64 x y) (w.tape w.drawn (.nanBits .f64 x y)), ?_, ?_, ?_⟩
  · unfold floatBits at h
    rcases ho with rfl | rfl | rfl | rfl <;> simp only at h <;> simp [binOp, Op.floatArith, h, choose, Sem.run, Question.forced]
  · rw [isN_iff]
    simp only [Question.cut]
    have hu := Nat.mod_lt (w.tape w.drawn (.nanBits .f64 x y) / 2) (show 0 < 2 ^ 52 - 1 by decide)
    generalize w.tape w.drawn (.nanBits .f64 x y) / 2 % (2 ^ 52 - 1) = u at *
    rcases Nat.mod_two_eq_zero_or_one (w.tape w.drawn (.nanBits .f64 x y)) with h | h <;> rw [h] <;> omega
  · simp only [Question.cut]
    have hu := Nat.mod_lt (w.tape w.drawn (.nanBits .f64 x y) / 2) (show 0 < 2 ^ 52 - 1 by decide)
    generalize w.tape w.drawn (.nanBits .f64 x y) / 2 % (2 ^ 52 - 1) = u at *
    rcases Nat.mod_two_eq_zero_or_one (w.tape w.drawn (.nanBits .f64 x y)) with h | h <;> rw [h] <;> omega
end Go.Proofs.YtoppccfgcccijaaDoor
/- The contract of the specification's FloatOf: the float with the bits, or some NaN where they are a NaN's; memory stays as it was. For every argument. -/

namespace Go.Proofs.YtoppccfgcccijaaDoor
open Go.RowKit Ieee

/-- The fields of 64 bits. -/
structure Fields (b e f : Nat) (s : Bool) : Prop where
  he : e < 2048
  hf : f < 4503599627370496
  hb : b = (if s then 9223372036854775808 else 0) + (e * 4503599627370496 + f)
  a1 : bits .and .u64 ((b : Int) / 4503599627370496) 2047 = (e : Int)
  a2 : bits .and .u64 (b : Int) 4503599627370495 = (f : Int)
  a3 : ((b : Int) / 9223372036854775808 == 1) = s

theorem fields (b : Nat) (h : b < 18446744073709551616) : ∃ e f s, Fields b e f s := by
  refine ⟨b / 4503599627370496 % 2048, b % 4503599627370496, decide (9223372036854775808 ≤ b), by omega, by omega, ?_, ?_, ?_, ?_⟩
  · by_cases hs : 9223372036854775808 ≤ b
    · rw [decide_eq_true hs, if_pos rfl]; omega
    · rw [decide_eq_false hs, if_neg (by simp)]; omega
  · have := u64_and_nat (b / 4503599627370496) 2047 (by omega) (by omega)
    rw [show (2047 : Nat) = 2 ^ 11 - 1 from rfl, Nat.and_two_pow_sub_one_eq_mod] at this
    exact this
  · have := u64_and_nat b 4503599627370495 (by omega) (by omega)
    rw [show (4503599627370495 : Nat) = 2 ^ 52 - 1 from rfl, Nat.and_two_pow_sub_one_eq_mod] at this
    exact this
  · by_cases hs : 9223372036854775808 ≤ b
    · rw [decide_eq_true hs]
      exact beq_iff_eq.2 (by omega)
    · rw [decide_eq_false hs]
      exact beq_eq_false_iff_ne.2 (by omega)

theorem ofint_run (f : Nat) (hf : f < 4503599627370496) (w : World) : (convert 54 22 (.int .u64 (f : Int))).run Tryd.prog w = .ok (.float .f64 (F f 1074)) w := by
  rw [run_convert_int_float w 54 22 .u64 .f64 (f : Int) (by rw [Tryd.underlying54]; rfl) Tryd.underlying22, of_F f (by omega)]

set_option maxHeartbeats 1600000 in
theorem spec_FloatOf_nan (b f : Nat) (s : Bool) (H : Fields b 2047 f s) (h0 : f ≠ 0) (w : World) :
    Calls Tryd.prog 36 #[.int .u64 b] w fun e w' => ∃ y : Nat, e = .returned (.float .f64 y) ∧ isN y = true ∧ y < 18446744073709551616 ∧ Still w w' := by
  have a1 := H.a1
  have a2 := H.a2
  have hof := ofint_run f H.hf
  have hd := fun t w => run_float_arith (P := Tryd.prog) w .quo t .f64 _ 4841369599423283200 _ (cut_F f 1022 (by have := H.hf; omega) (by omega))
  obtain ⟨n, hn, n1, n2⟩ := nan_run .quo 22 0 0 (by simp) (by decide) w
  have hne : ((f : Int) != 0) = true := by simp [h0]
  generalize F f 1074 = y1 at *
  generalize F f 1022 = y2 at *
  clear H h0
  go_enter Tryd.func36, Tryd.ntmps36
  go_wp2
  go_ret
  exact ⟨n, rfl, n1, n2, Still.drew w⟩

set_option maxHeartbeats 1600000 in
theorem spec_FloatOf_inf (b : Nat) (s : Bool) (H : Fields b 2047 0 s) (w : World) :
    Calls Tryd.prog 36 #[.int .u64 b] w fun e w' => e = .returned (.float .f64 b) ∧ w' = w := by
  have a1 : bits .and .u64 ((b : Int) / 4503599627370496) 2047 = 2047 := H.a1
  have a2 : bits .and .u64 (b : Int) 4503599627370495 = 0 := H.a2
  have a3 := H.a3
  have hb := hid H.hb
  have hof : ∀ w, (convert 54 22 (.int .u64 0)).run Tryd.prog w = .ok (.float .f64 (F 0 1074)) w := ofint_run 0 (by omega)
  have hd := fun t w => run_float_arith (P := Tryd.prog) w .quo t .f64 _ 4841369599423283200 _ (cut_F 0 1022 (by omega) (by omega))
  have d1 := fun t w => run_float_arith (P := Tryd.prog) w .quo t .f64 4607182418800017408 0 9218868437227405312 (by decide)
  have n2 := neg_run 9218868437227405312 18442240474082181120 (by decide)
  generalize F 0 1074 = y1 at *
  generalize F 0 1022 = y2 at *
  clear H
  cases s
  · have hb' := hid (show b = 9218868437227405312 by have := hb.out; rw [if_neg (by simp)] at this; omega)
    clear hb
    go_enter Tryd.func36, Tryd.ntmps36
    go_wp2
    go_ret
    exact ⟨by rw [hb'.out]; rfl, rfl⟩
  · have hb' := hid (show b = 18442240474082181120 by have := hb.out; rw [if_pos rfl] at this; omega)
    clear hb
    go_enter Tryd.func36, Tryd.ntmps36
    go_wp2
    go_ret
    exact ⟨by rw [hb'.out]; rfl, rfl⟩

set_option maxRecDepth 100000 in
set_option maxHeartbeats 1600000 in
theorem spec_FloatOf_norm (b e f : Nat) (s : Bool) (H : Fields b e f s) (h0 : 1 ≤ e) (h1 : e ≤ 2046) (w : World) :
    Calls Tryd.prog 36 #[.int .u64 b] w fun e w' => e = .returned (.float .f64 b) ∧ w' = w := by
  have a1 := H.a1
  have a2 := H.a2
  have a3 := H.a3
  have hbp : Hid (s = false → b = e * 4503599627370496 + f) := fun h => by have := H.hb; rw [h, if_neg (by simp), Nat.zero_add] at this; exact this
  have hbn : Hid (s = true → b = 9223372036854775808 + (e * 4503599627370496 + f)) := fun h => by have := H.hb; rw [h, if_pos rfl] at this; exact this
  have hf := H.hf
  have hof := ofint_run f hf
  have hd := fun t w => run_float_arith (P := Tryd.prog) w .quo t .f64 _ 4841369599423283200 _ (cut_F f 1022 (by omega) (by omega))
  have hm := fun t w => run_float_arith (P := Tryd.prog) w .add t .f64 _ 4607182418800017408 _ (more_F f hf)
  have hne : ((e : Int) == 2047) = false := beq_eq_false_iff_ne.2 (by omega)
  have hne0 : ((e : Int) == 0) = false := beq_eq_false_iff_ne.2 (by omega)
  have E0 : (1 : Int) ≤ e := by omega
  have E1 : (e : Int) ≤ 2046 := by omega
  have Hfin : Hid (F (2 ^ 52 + f) (e - 1) = e * 4503599627370496 + f) := by
    have := F_norm (e - 1) f hf (by omega)
    rw [show (e - 1 + 1) * 2 ^ 52 + f = e * 4503599627370496 + f by omega] at this
    exact this
  have Hc : Hid (2 ^ 52 + f < 2 ^ 53) := hid (by omega)
  have He := hid (show e - 1 + 1 = e by omega)
  have HF := hid hf
  have H1 := hid h1
  generalize F f 1074 = y1 at *
  generalize F f 1022 = y2 at *
  generalize 2 ^ 52 + f = c at *
  generalize e - 1 = T at *
  clear H h0 h1 hf
  go_enter Tryd.func36, Tryd.ntmps36
  go_wp2
  clear hof hd hm hne hne0
  go_loopw [6, 7] (fun a k wr => ∃ j : Nat, a = .float .f64 (F c j) ∧ k = .int .i64 ((T : Int) - j) ∧ Hid (1022 ≤ j) ∧ Hid (j ≤ 2045) ∧ wr = w) (fun _ k _ => (intOf k).toNat)
  case atStart => exact ⟨1022, rfl, by have := He.out; go_num, hid (by omega), hid (by omega), rfl⟩
  case round =>
    obtain ⟨j, rfl, rfl, P1, P2, rfl⟩ := hrel
    have hT : (T : Int) ≤ 2045 := by have := He.out; have := H1.out; omega
    have hT0 : (0 : Int) ≤ T := by omega
    have hj0 : (0 : Int) ≤ j := by omega
    have hj1 : (j : Int) ≤ 2045 := by have := P2.out; omega
    by_cases hlt : (0 : Int) < (T : Int) - j
    · have hx := fun t w => run_float_arith (P := Tryd.prog) w .mul t .f64 _ 4611686018427387904 _ (double_F c j Hc.out (by omega))
      go_wp2
      go_roundw
      case rel => exact ⟨j + 1, rfl, by go_num, hid (by have := P1.out; omega), hid (by omega), by first | trivial | rfl⟩
      case measure => simp [intOf]; omega
    · have Q0 := hid (show T ≤ j by omega)
      go_wp2
      go_loopw [6, 7] (fun a k wr' => ∃ i : Nat, a = .float .f64 (F c i) ∧ k = .int .i64 ((T : Int) - i) ∧ Hid (T ≤ i) ∧ Hid (i ≤ 2045) ∧ wr' = wr) (fun _ k _ => (-(intOf k)).toNat)
      case atStart => exact ⟨j, rfl, rfl, Q0, P2, rfl⟩
      case round =>
        obtain ⟨i, rfl, rfl, R1, R2, rfl⟩ := hrel
        have hi0 : (0 : Int) ≤ i := by omega
        have hi1 : (i : Int) ≤ 2045 := by have := R2.out; omega
        by_cases hlt2 : (T : Int) - i < 0
        · obtain ⟨i', hi'⟩ : ∃ i', i = i' + 1 := ⟨i - 1, by omega⟩
          have Hi := hid hi'
          have hx := fun t w => run_float_arith (P := Tryd.prog) w .quo t .f64 (F c i) 4611686018427387904 (F c i') (by rw [hi']; exact half_F c i' Hc.out (by omega))
          clear hi'
          go_wp2
          go_roundw
          case rel => exact ⟨i', rfl, by have := Hi.out; go_num, hid (by have := Hi.out; omega), hid (by have := Hi.out; omega), by first | trivial | rfl⟩
          case measure => have := Hi.out; simp [intOf]; omega
        · have ei := hid (show i = T by have := R1.out; omega)
          have hn := neg_run (F c i) (9223372036854775808 + F c i) (neg_bits' _ (by rw [ei.out, Hfin.out]; have := HF.out; have := He.out; have := H1.out; omega))
          cases s
          · go_wp2
            go_ret
            exact ⟨by rw [show b = F c i by rw [ei.out, Hfin.out, hbp.out (by first | trivial | rfl)]]; rfl, rfl⟩
          · go_wp2
            go_ret
            exact ⟨by rw [show b = 9223372036854775808 + F c i by rw [ei.out, Hfin.out, hbn.out (by first | trivial | rfl)]]; rfl, rfl⟩
set_option maxRecDepth 100000 in
set_option maxHeartbeats 1600000 in
theorem spec_FloatOf_low (b f : Nat) (s : Bool) (H : Fields b 0 f s) (w : World) :
    Calls Tryd.prog 36 #[.int .u64 b] w fun e w' => e = .returned (.float .f64 b) ∧ w' = w := by
  have a1 : bits .and .u64 ((b : Int) / 4503599627370496) 2047 = 0 := H.a1
  have a2 := H.a2
  have a3 := H.a3
  have hbp : Hid (s = false → b = f) := fun h => by have := H.hb; rw [h, if_neg (by simp)] at this; omega
  have hbn : Hid (s = true → b = 9223372036854775808 + f) := fun h => by have := H.hb; rw [h, if_pos rfl] at this; omega
  have hf := H.hf
  have hof := ofint_run f hf
  have hd := fun t w => run_float_arith (P := Tryd.prog) w .quo t .f64 _ 4841369599423283200 _ (cut_F f 1022 (by omega) (by omega))
  have Hfin : Hid (F f 0 = f) := F_sub f hf
  have Hc : Hid (f < 2 ^ 53) := hid (by omega)
  have HF := hid hf
  obtain ⟨T, HT⟩ : ∃ T : Nat, Hid (T = 0) := ⟨0, rfl⟩
  generalize F f 1074 = y1 at *
  clear H hf
  go_enter Tryd.func36, Tryd.ntmps36
  go_wp2
  clear hof hd
  go_loopw [6, 7] (fun a k wr => ∃ j : Nat, a = .float .f64 (F f j) ∧ k = .int .i64 ((T : Int) - j) ∧ Hid (1022 ≤ j) ∧ Hid (j ≤ 2045) ∧ wr = w) (fun _ k _ => (intOf k).toNat)
  case atStart => exact ⟨1022, rfl, by have := HT.out; go_num, hid (by omega), hid (by omega), rfl⟩
  case round =>
    obtain ⟨j, rfl, rfl, P1, P2, rfl⟩ := hrel
    have hT : (T : Int) ≤ 2045 := by have := HT.out; omega
    have hT0 : (0 : Int) ≤ T := by omega
    have hj0 : (0 : Int) ≤ j := by omega
    have hj1 : (j : Int) ≤ 2045 := by have := P2.out; omega
    by_cases hlt : (0 : Int) < (T : Int) - j
    · have hx := fun t w => run_float_arith (P := Tryd.prog) w .mul t .f64 _ 4611686018427387904 _ (double_F f j Hc.out (by omega))
      go_wp2
      go_roundw
      case rel => exact ⟨j + 1, rfl, by go_num, hid (by have := P1.out; omega), hid (by omega), by first | trivial | rfl⟩
      case measure => simp [intOf]; omega
    · have Q0 := hid (show T ≤ j by omega)
      go_wp2
      go_loopw [6, 7] (fun a k wr' => ∃ i : Nat, a = .float .f64 (F f i) ∧ k = .int .i64 ((T : Int) - i) ∧ Hid (T ≤ i) ∧ Hid (i ≤ 2045) ∧ wr' = wr) (fun _ k _ => (-(intOf k)).toNat)
      case atStart => exact ⟨j, rfl, rfl, Q0, P2, rfl⟩
      case round =>
        obtain ⟨i, rfl, rfl, R1, R2, rfl⟩ := hrel
        have hi0 : (0 : Int) ≤ i := by omega
        have hi1 : (i : Int) ≤ 2045 := by have := R2.out; omega
        by_cases hlt2 : (T : Int) - i < 0
        · obtain ⟨i', hi'⟩ : ∃ i', i = i' + 1 := ⟨i - 1, by omega⟩
          have Hi := hid hi'
          have hx := fun t w => run_float_arith (P := Tryd.prog) w .quo t .f64 (F f i) 4611686018427387904 (F f i') (by rw [hi']; exact half_F f i' Hc.out (by omega))
          clear hi'
          go_wp2
          go_roundw
          case rel => exact ⟨i', rfl, by have := Hi.out; go_num, hid (by have := Hi.out; omega), hid (by have := Hi.out; omega), by first | trivial | rfl⟩
          case measure => have := Hi.out; simp [intOf]; omega
        · have ei := hid (show i = T by have := R1.out; omega)
          have hn := neg_run (F f i) (9223372036854775808 + F f i) (neg_bits' _ (by rw [ei.out, HT.out, Hfin.out]; have := HF.out; omega))
          cases s
          · go_wp2
            go_ret
            exact ⟨by rw [show b = F f i by rw [ei.out, HT.out, Hfin.out, hbp.out (by first | trivial | rfl)]]; rfl, rfl⟩
          · go_wp2
            go_ret
            exact ⟨by rw [show b = 9223372036854775808 + F f i by rw [ei.out, HT.out, Hfin.out, hbn.out (by first | trivial | rfl)]]; rfl, rfl⟩

theorem spec_FloatOf (b : Nat) (hb : b < 18446744073709551616) (w : World) :
    Calls Tryd.prog 36 #[.int .u64 b] w fun e w' => ∃ y : Nat, e = .returned (.float .f64 y) ∧ y < 18446744073709551616 ∧ Hid (isN b = false → y = b) ∧ Hid (isN b = isN y) ∧ Still w w' := by
  obtain ⟨e, f, s, H⟩ := fields b hb
  have h1 := H.he
  have h2 := H.hf
  have h3 := H.hb
  have hm : b % 9223372036854775808 = e * 4503599627370496 + f := by
    cases s
    · rw [if_neg (by simp)] at h3; omega
    · rw [if_pos rfl] at h3; omega
  have keep : ∀ w', w' = w → Still w w' := fun w' h => by subst h; exact Still.refl _
  by_cases he : e = 2047
  · subst he
    by_cases hf : f = 0
    · subst hf
      refine (spec_FloatOf_inf b s H w).mono ?_
      rintro x w1 ⟨rfl, e1⟩
      exact ⟨b, rfl, hb, hid (fun _ => rfl), hid rfl, keep w1 e1⟩
    · refine (spec_FloatOf_nan b f s H hf w).mono ?_
      rintro x w1 ⟨y, rfl, n1, n2, st⟩
      have hN : isN b = true := (isN_iff b).2 (by omega)
      exact ⟨y, rfl, n2, hid (fun h => by rw [hN] at h; cases h), hid (by rw [hN, n1]), st⟩
  · by_cases h0 : e = 0
    · subst h0
      refine (spec_FloatOf_low b f s H w).mono ?_
      rintro x w1 ⟨rfl, e1⟩
      exact ⟨b, rfl, hb, hid (fun _ => rfl), hid rfl, keep w1 e1⟩
    · refine (spec_FloatOf_norm b e f s H (by omega) (by omega) w).mono ?_
      rintro x w1 ⟨rfl, e1⟩
      exact ⟨b, rfl, hb, hid (fun _ => rfl), hid rfl, keep w1 e1⟩
end Go.Proofs.YtoppccfgcccijaaDoor
/- One float, all NaNs being one. No statement of its own; no conditions. -/

namespace Go.Proofs.YtoppccfgcccijaaDoor

/-- One float, all NaNs being one. -/
def Same (x y : Nat) : Prop := (isN x = true ∧ isN y = true) ∨ (isN x = false ∧ y = x)
theorem Same.refl (x : Nat) : Same x x := by
  by_cases h : isN x = true
  · exact .inl ⟨h, h⟩
  · exact .inr ⟨by simpa using h, rfl⟩
theorem Same.symm {x y : Nat} (h : Same x y) : Same y x := by
  rcases h with ⟨a, b⟩ | ⟨a, rfl⟩
  · exact .inl ⟨b, a⟩
  · exact .inr ⟨a, rfl⟩
theorem Same.trans {x y z : Nat} (h : Same x y) (k : Same y z) : Same x z := by
  rcases h with ⟨a, b⟩ | ⟨a, rfl⟩
  · rcases k with ⟨c, d⟩ | ⟨c, rfl⟩
    · exact .inl ⟨a, d⟩
    · rw [b] at c; cases c
  · exact k
end Go.Proofs.YtoppccfgcccijaaDoor
/- The contracts of the specification's FloatRank, FloatUnrank and FloatCompare and of the laws' sameFloat; the laws of chapter 2 on FloatBits, FloatOf, FloatRank, FloatUnrank, FloatCompare. For every argument. -/


namespace Go.Proofs.YtoppccfgcccijaaDoor
open Go.RowKit Ieee

theorem sameFloat_walk (x y : Nat) (hx : x < 18446744073709551616) (hy : y < 18446744073709551616) (hs : Same x y) (w : World) :
    Calls Tryd.prog 33 #[.float .f64 x, .float .f64 y] w fun e w' => e = .returned (.bool true) ∧ w' = w := by
  rcases hs with ⟨n1, n2⟩ | ⟨n1, rfl⟩
  · have o1 := order_l x x hx n1
    have o2 := order_l y y hy n2
    clear hx hy n1 n2
    go_enter Tryd.func33, Tryd.ntmps33
    go_wp2
    go_ret
    exact ⟨rfl, rfl⟩
  · have o1 := order_eq y y hx hx n1 n1 rfl
    by_cases h0 : y % 9223372036854775808 = 0
    · have h2 : y = 0 ∨ y = 9223372036854775808 := by omega
      clear hx hy n1 h0
      have d1 := fun t w => run_float_arith (P := Tryd.prog) w .quo t .f64 4607182418800017408 0 9218868437227405312 (by decide)
      have d2 := fun t w => run_float_arith (P := Tryd.prog) w .quo t .f64 4607182418800017408 9223372036854775808 18442240474082181120 (by decide)
      have o3 : FloatKind.f64.format.order 9218868437227405312 0 = some .gt := by decide
      have o4 : FloatKind.f64.format.order 18442240474082181120 0 = some .lt := by decide
      have o5 : FloatKind.f64.format.order 9223372036854775808 0 = some .eq := by decide
      rcases h2 with rfl | rfl
      all_goals
        go_enter Tryd.func33, Tryd.ntmps33
        go_wp2
        go_ret
        exact ⟨rfl, rfl⟩
    · have hm := (isN_not y).1 n1
      have o2 : FloatKind.f64.format.order y 0 = some .lt ∨ FloatKind.f64.format.order y 0 = some .gt := by
        by_cases hp : y < 9223372036854775808
        · exact .inr (order_gt y 0 hx (by omega) n1 isN_zero (by rw [kx_zero, kx, if_pos hp]; omega))
        · exact .inl (order_lt y 0 hx (by omega) n1 isN_zero (by rw [kx_zero, kx, if_neg hp]; omega))
      clear hx hy n1 h0 hm
      rcases o2 with o2 | o2
      all_goals
        go_enter Tryd.func33, Tryd.ntmps33
        go_wp2
        go_ret
        exact ⟨rfl, rfl⟩

theorem or_top (x : Nat) (h : x < 9223372036854775808) : bits .or .u64 (x : Int) 9223372036854775808 = ((x + 9223372036854775808 : Nat) : Int) := by
  have := u64_or_nat x 9223372036854775808 (by omega) (by omega)
  rw [Nat.or_comm, nat_join 63 _ _ (by decide) (by omega), Nat.add_comm] at this
  exact this

theorem frank_same (x y : Nat) (h1 : isN x = false → y = x) (h2 : isN x = isN y) : frank y = frank x := by
  by_cases hn : isN x = true
  · rw [frank, frank, if_pos hn, if_pos (by rw [← h2]; exact hn)]
  · rw [h1 (by simpa using hn)]

theorem same_of {x y : Nat} (h1 : isN x = false → y = x) (h2 : isN x = isN y) : Same x y := by
  by_cases hn : isN x = true
  · exact .inl ⟨hn, by rw [← h2]; exact hn⟩
  · have hn' : isN x = false := by simpa using hn
    exact .inr ⟨hn', h1 hn'⟩

/-- What FloatUnrank answers, as the specification does it. -/
def Unrank (k : Nat) (y : Nat) (ok : Bool) : Prop :=
  (frank (back k) = k ∧ ok = true ∧ Same (back k) y) ∨ (¬ frank (back k) = k ∧ ok = false ∧ y = 0)

end Go.Proofs.YtoppccfgcccijaaDoor
/- Items: what is ItemOk; the contracts of the specification's ItemOk and KeyOk and of the laws' szItem, toItem, eqItem. Conditions: texts of at most 2^21 bytes where memory is made. -/


namespace Go.Proofs.YtoppccfgcccijaaDoor
open Go.RowKit

/-- Whether an item is right. -/
def okI (K N : Int) (f n : Nat) : Bool := decide (0 ≤ K ∧ K ≤ 3 ∧ n ≤ 40 ∧ (K = 1 ∨ N = 0) ∧ (K = 2 ∨ f = 0) ∧ (K = 3 ∨ n = 0))

theorem fbits_zero (f : Nat) : fbits f = 0 ↔ f = 0 := by
  unfold fbits
  split
  · rename_i h
    constructor
    · intro h'; omega
    · intro h'; subst h'; exact absurd h (by decide)
  · exact Iff.rfl

theorem fbits_ne (f : Nat) (h : f ≠ 0) : ((fbits f : Int) != 0) = true := by
  have := fun e => h ((fbits_zero f).1 e)
  simp
  omega

set_option maxRecDepth 100000 in
set_option maxHeartbeats 1600000 in
theorem spec_ItemOk (K N : Int) (f : Nat) (ad : Option Addr) (n cap : Nat) (hf : f < 18446744073709551616) (hn : n ≤ 2097152) (w : World) :
    Calls Tryd.prog 26 #[.agg #[.int .i64 K, .int .i64 N, .float .f64 f, .slice ad n cap]] w fun e w' => e = .returned (.bool (okI K N f n)) ∧ Below w.heap.size w w' := by
  have hA : Below w.heap.size w (w.alloc (.cells #[.int .i64 K, .int .i64 N, .float .f64 f, .slice ad n cap] 28)) := (Below.refl _ _).alloc (Nat.le_refl _) _
  have HA := hid hA
  clear hA
  by_cases h1 : K < 0
  · rw [show okI K N f n = false from decide_eq_false (by omega)]
    go_enter Tryd.func26, Tryd.ntmps26
    go_wp2
    go_ret
    exact ⟨rfl, HA.out⟩
  by_cases h2 : 3 < K
  · rw [show okI K N f n = false from decide_eq_false (by omega)]
    go_enter Tryd.func26, Tryd.ntmps26
    go_wp2
    go_ret
    exact ⟨rfl, HA.out⟩
  by_cases h3 : 40 < n
  · rw [show okI K N f n = false from decide_eq_false (by omega)]
    have h3' : (40 : Int) < (n : Int) := by omega
    go_enter Tryd.func26, Tryd.ntmps26
    go_wp2
    go_ret
    exact ⟨rfl, HA.out⟩
  have h3' : ¬ (40 : Int) < (n : Int) := by omega
  by_cases h4 : K ≠ 1 ∧ N ≠ 0
  · rw [show okI K N f n = false from decide_eq_false (by omega)]
    have q1 : (K != 1) = true := by simp [h4.1]
    have q2 : (N != 0) = true := by simp [h4.2]
    go_enter Tryd.func26, Tryd.ntmps26
    go_wp2
    go_ret
    exact ⟨rfl, HA.out⟩
  by_cases h5 : K = 1
  · subst h5
    by_cases h6 : f = 0
    · subst h6
      have hz : fbits 0 = 0 := by decide
      by_cases h7 : n = 0
      · subst h7
        rw [show okI 1 N 0 0 = true from decide_eq_true (by omega)]
        go_enter Tryd.func26, Tryd.ntmps26
        go_wp2_with fail
        refine (spec_FloatBits 0 hf _).mono ?_
        rintro e w1 ⟨rfl, rfl⟩
        rw [hz]
        go_wp2_with fail
        go_ret
        exact ⟨rfl, HA.out⟩
      · rw [show okI 1 N 0 n = false from decide_eq_false (by omega)]
        have q7 : ((n : Int) == 0) = false := beq_eq_false_iff_ne.2 (by omega)
        go_enter Tryd.func26, Tryd.ntmps26
        go_wp2_with fail
        refine (spec_FloatBits 0 hf _).mono ?_
        rintro e w1 ⟨rfl, rfl⟩
        rw [hz]
        go_wp2_with fail
        go_ret
        exact ⟨rfl, HA.out⟩
    · rw [show okI 1 N f n = false from decide_eq_false (by omega)]
      have q6 : ((fbits f : Int) != 0) = true := fbits_ne f h6
      go_enter Tryd.func26, Tryd.ntmps26
      go_wp2_with fail
      refine (spec_FloatBits f hf _).mono ?_
      rintro e w1 ⟨rfl, rfl⟩
      go_wp2_with fail
      go_ret
      exact ⟨rfl, HA.out⟩
  have h8 : N = 0 := by omega
  subst h8
  have q1 : (K != 1) = true := by simp [h5]
  by_cases h9 : K = 2
  · subst h9
    by_cases h7 : n = 0
    · subst h7
      rw [show okI 2 0 f 0 = true from decide_eq_true (by omega)]
      go_enter Tryd.func26, Tryd.ntmps26
      go_wp2
      go_ret
      exact ⟨rfl, HA.out⟩
    · rw [show okI 2 0 f n = false from decide_eq_false (by omega)]
      have q7 : ((n : Int) == 0) = false := beq_eq_false_iff_ne.2 (by omega)
      go_enter Tryd.func26, Tryd.ntmps26
      go_wp2
      go_ret
      exact ⟨rfl, HA.out⟩
  have q9 : (K != 2) = true := by simp [h9]
  by_cases h6 : f = 0
  · subst h6
    have hz : fbits 0 = 0 := by decide
    by_cases h7 : K = 3
    · subst h7
      rw [show okI 3 0 0 n = true from decide_eq_true (by omega)]
      go_enter Tryd.func26, Tryd.ntmps26
      go_wp2_with fail
      refine (spec_FloatBits 0 hf _).mono ?_
      rintro e w1 ⟨rfl, rfl⟩
      rw [hz]
      go_wp2_with fail
      go_ret
      exact ⟨rfl, HA.out⟩
    · have h10 : K = 0 := by omega
      subst h10
      by_cases h7 : n = 0
      · subst h7
        rw [show okI 0 0 0 0 = true from decide_eq_true (by omega)]
        go_enter Tryd.func26, Tryd.ntmps26
        go_wp2_with fail
        refine (spec_FloatBits 0 hf _).mono ?_
        rintro e w1 ⟨rfl, rfl⟩
        rw [hz]
        go_wp2_with fail
        go_ret
        exact ⟨rfl, HA.out⟩
      · rw [show okI 0 0 0 n = false from decide_eq_false (by omega)]
        have q7 : ((n : Int) == 0) = false := beq_eq_false_iff_ne.2 (by omega)
        go_enter Tryd.func26, Tryd.ntmps26
        go_wp2_with fail
        refine (spec_FloatBits 0 hf _).mono ?_
        rintro e w1 ⟨rfl, rfl⟩
        rw [hz]
        go_wp2_with fail
        go_ret
        exact ⟨rfl, HA.out⟩
  · rw [show okI K 0 f n = false from decide_eq_false (by omega)]
    have q6 : ((fbits f : Int) != 0) = true := fbits_ne f h6
    go_enter Tryd.func26, Tryd.ntmps26
    go_wp2_with fail
    refine (spec_FloatBits f hf _).mono ?_
    rintro e w1 ⟨rfl, rfl⟩
    go_wp2_with fail
    go_ret
    exact ⟨rfl, HA.out⟩

/-- Whether an item is a key. -/
def okK (K N : Int) (f n : Nat) : Bool := okI K N f n && decide (K ≠ 0 ∧ f ≠ 9223372036854775808)
end Go.Proofs.YtoppccfgcccijaaDoor
