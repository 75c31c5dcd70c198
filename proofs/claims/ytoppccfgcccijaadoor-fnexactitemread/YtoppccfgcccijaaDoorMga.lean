/- Texts of this proof in one: Base Xa18 Help Flo Flx Flv Fli Flw Flb Flq Flf Fsa. -/
import Derived.WalkKit
import Derived.WalkSpells
import Derived.Laws.CopyOwn
import Derived.Deep.Draws
import Derived.OpenShut
import Derived.Test.YtoppccfgcccijaaDoorRows
import Derived.Deep.QuietTactic
import Derived.BigQuiet
import Derived.Laws.FloatArith
import Derived.Test.YtoppccfgcccijaaDoorChecked
import Derived.WalkLawsBesides
import Derived.Laws.BitsAllLaws
import Derived.Laws.Externs
import Derived.KernelRfl
/- Plain notions for the proofs of this seat: what a slice of bytes reads as, in a world; how that is kept. No statement of its own; no conditions. -/





namespace Go.Proofs.YtoppccfgcccijaaDoor
open Go.RowKit

/-- The byte cells of a list of numbers. -/
def bys (zs : List Int) : List Value := zs.map (Value.int .u8)
theorem bys_length (zs : List Int) : (bys zs).length = zs.length := by simp [bys]

/-- A slice of n bytes at 'ad' reads, in the world w, as the numbers zs. -/
structure Reads (w : World) (ad : Option Addr) (n : Nat) (zs : List Int) : Prop where
  len : zs.length = n
  cells : n = 0 ∨ ∃ b off, ad = some ⟨b, off, none⟩ ∧ ∀ i, i < n → w.cell? ⟨b, off + i, none⟩ = some (.int .u8 (zs.getD i 0))
  bd : ∀ i, 0 ≤ zs.getD i 0 ∧ zs.getD i 0 ≤ 255

theorem Reads.below {w w' : World} {ad : Option Addr} {n : Nat} {zs : List Int} (h : Reads w ad n zs) {B : Nat} (hb : Below B w w') (hB : w.heap.size ≤ B) : Reads w' ad n zs := by
  refine ⟨h.len, ?_, h.bd⟩
  rcases h.cells with h0 | ⟨b, off, rfl, hc⟩
  · exact .inl h0
  · refine .inr ⟨b, off, rfl, fun i hi => ?_⟩
    have hc' := hc i hi
    have := World.block_lt_of_cell? w _ hc'
    rw [hb.cell (p := ⟨b, off + i, none⟩) (by simp at this ⊢; omega)]
    exact hc'

/-- A row of the call's own, read. -/
theorem Reads.own {w : World} {base : Nat} {v : Value} {n : Nat} {zs : List Int} (h : w.ownsRow base 5 1 v n (bys zs)) (hbd : ∀ i, 0 ≤ zs.getD i 0 ∧ zs.getD i 0 ≤ 255) :
    ∃ ad cap, v = .slice ad n cap ∧ Reads w ad n zs ∧ (ad = none ∨ ∃ g, ad = some ⟨g, 0, none⟩ ∧ base ≤ g ∧ g < w.heap.size) := by
  have hl : zs.length = n := by have := h.1; simpa [bys] using this
  rcases h.2 with ⟨rfl, rfl⟩ | ⟨g, cap, cur, rfl, hb, hg, hnc, hcm, hcs, htake⟩
  · exact ⟨none, 0, rfl, ⟨hl, .inl rfl, hbd⟩, .inl rfl⟩
  · refine ⟨_, cap, rfl, ⟨hl, .inr ⟨g, 0, rfl, fun i hi => ?_⟩, hbd⟩, .inr ⟨g, rfl, hb, (Array.getElem?_eq_some_iff.1 hg).1⟩⟩
    rw [Nat.zero_add, h.cellAt i (by omega)]
    simp [bys, hl, hi]

/-- A fact kept from the walk. -/
theorem hid {p : Prop} (h : p) : Hid p := h

/-- Nothing in memory has turned (draws alone). -/
structure Still (w w' : World) : Prop where
  os : w'.os = w.os
  tape : w'.tape = w.tape
  output : w'.output = w.output
  heap : w'.heap = w.heap
theorem Still.refl (w : World) : Still w w := ⟨rfl, rfl, rfl, rfl⟩
theorem Still.trans {a b c : World} (h : Still a b) (k : Still b c) : Still a c := ⟨k.os.trans h.os, k.tape.trans h.tape, k.output.trans h.output, k.heap.trans h.heap⟩
theorem Still.drewN (w : World) (n : Nat) : Still w (w.drewN n) := ⟨rfl, rfl, rfl, rfl⟩
theorem Still.drew (w : World) : Still w w.drew := ⟨rfl, rfl, rfl, rfl⟩
theorem Still.below {w w' : World} (h : Still w w') (B : Nat) : Below B w w' := ⟨h.os, h.tape, h.output, by rw [h.heap]; exact Nat.le_refl _, fun k _ => by rw [h.heap]⟩
theorem Still.size {w w' : World} (h : Still w w') : w'.heap.size = w.heap.size := by rw [h.heap]
theorem Still.cell {w w' : World} (h : Still w w') (a : Addr) : w'.cell? a = w.cell? a := by simp [World.cell?, h.heap]
theorem Still.frozen {w w' : World} (h : Still w w') (a : Addr) : w'.frozen? a = w.frozen? a := by simp [World.frozen?, h.heap]
theorem Still.reads {w w' : World} (h : Still w w') {ad : Option Addr} {n : Nat} {zs : List Int} (hr : Reads w ad n zs) : Reads w' ad n zs := hr.below (h.below w.heap.size) (Nat.le_refl _)
theorem Still.owns {w w' : World} (h : Still w w') {base : Nat} {e : TypeId} {s : Nat} {v : Value} {n : Nat} {xs : List Value} (ho : w.ownsRow base e s v n xs) : w'.ownsRow base e s v n xs := by
  unfold World.ownsRow at ho ⊢; rw [h.heap]; exact ho

theorem owns_below {w w' : World} {B : Nat} (hb : Below B w w') (hB : w.heap.size ≤ B) {base : Nat} {e : TypeId} {s : Nat} {v : Value} {n : Nat} {xs : List Value} (ho : w.ownsRow base e s v n xs) : w'.ownsRow base e s v n xs := by
  refine ⟨ho.1, ?_⟩
  rcases ho.2 with hn | ⟨g, cap, cur, rfl, hbg, hg, rest⟩
  · exact .inl hn
  · exact .inr ⟨g, cap, cur, rfl, hbg, by rw [hb.block g (by have := (Array.getElem?_eq_some_iff.1 hg).1; omega)]; exact hg, rest⟩

/-- Reading is kept while another row is written. -/
theorem Reads.other {w w' : World} {ad : Option Addr} {n : Nat} {zs : List Int} (h : Reads w ad n zs) {row : Option Nat} (hg : w.grownBy w' row) (hne : ∀ a, ad = some a → some a.block ≠ row) : Reads w' ad n zs := by
  refine ⟨h.len, ?_, h.bd⟩
  rcases h.cells with h0 | ⟨b, off, rfl, hc⟩
  · exact .inl h0
  · exact .inr ⟨b, off, rfl, fun i hi => hg.cell (hc i hi) (hne ⟨b, off, none⟩ rfl)⟩

/-- What markByteS writes: k, k + 1 .., as bytes. -/
def marks (k : Int) (n : Nat) : List Int := (List.range n).map fun i => (k + (i : Nat)) % 256
theorem marks_length (k : Int) (n : Nat) : (marks k n).length = n := by simp [marks]
theorem marks_succ (k : Int) (n : Nat) : marks k (n + 1) = marks k n ++ [(k + (n : Nat)) % 256] := by simp [marks, List.range_succ]
theorem marks_at (k : Int) (n i : Nat) (h : i < n) : (marks k n).getD i 0 = (k + (i : Nat)) % 256 := by simp [marks, h]
theorem marks_bd (k : Int) (n i : Nat) : 0 ≤ (marks k n).getD i 0 ∧ (marks k n).getD i 0 ≤ 255 := by
  by_cases h : i < n
  · rw [marks_at k n i h]; omega
  · simp [marks, h]
theorem set_mid (A : List Value) (X : List Value) (j : Nat) (c : Value) (hA : A.length = j) (hX : j < X.length) : (A ++ X.drop j).set j c = (A ++ [c]) ++ X.drop (j + 1) := by
  rw [List.set_append_right _ _ (by omega), hA, Nat.sub_self, List.drop_eq_getElem_cons hX, List.set_cons_zero]; simp

theorem grown_trans {a b c : World} {row : Option Nat} (h : a.grownBy b row) (k : b.grownBy c row) : a.grownBy c row :=
  ⟨k.os.trans h.os, k.tape.trans h.tape, k.output.trans h.output, Nat.le_trans h.size k.size, fun i hi hr => (k.block i (Nat.lt_of_lt_of_le hi h.size) hr).trans (h.block i hi hr)⟩
theorem grown_refl (w : World) (row : Option Nat) : w.grownBy w row := ⟨rfl, rfl, rfl, Nat.le_refl _, fun _ _ _ => rfl⟩
theorem bys_append (a b : List Int) : bys (a ++ b) = bys a ++ bys b := by simp [bys]

/-- Two rows, the second made behind the first. -/
theorem apart_of {ad ad' : Option Addr} {B lo hi n cap : Nat} (h : ad = none ∨ ∃ g, ad = some ⟨g, 0, none⟩ ∧ lo ≤ g ∧ g < B) (h' : ad' = none ∨ ∃ g, ad' = some ⟨g, 0, none⟩ ∧ B ≤ g ∧ g < hi) :
    ∀ a, ad = some a → some a.block ≠ (Value.slice ad' n cap).ownBlock := by
  intro a ha
  rcases h' with rfl | ⟨g', rfl, h1, h2⟩
  · simp [Value.ownBlock]
  · rcases h with rfl | ⟨g, rfl, h3, h4⟩
    · cases ha
    · cases ha; simp [Value.ownBlock]; omega
theorem own_ge {ad : Option Addr} {B hi n cap : Nat} (h : ad = none ∨ ∃ g, ad = some ⟨g, 0, none⟩ ∧ B ≤ g ∧ g < hi) : ∀ k, (Value.slice ad n cap).ownBlock = some k → B ≤ k := by
  intro k hk
  rcases h with rfl | ⟨g, rfl, h1, h2⟩
  · simp [Value.ownBlock] at hk
  · simp [Value.ownBlock] at hk; omega

/-- A slice of bytes that came in, as the row's step tells it, read. -/
theorem reads_in {w : World} {a : Option Addr} {len cap : Nat} {zs : List Int}
    (h : (a = none ∧ len = 0 ∧ cap = 0 ∧ zs = []) ∨ ∃ x, a = some x ∧ len ≤ cap ∧ cap ≤ maxLen ∧ zs.length = cap ∧ (∀ i, i < zs.length → w.cell? (x.add i) = some (.int .u8 (zs.getD i 0))) ∧ ∀ n ∈ zs, (Lit.int .u8 n).wf = true) :
    Reads w a len (zs.take len) := by
  rcases h with ⟨rfl, rfl, rfl, rfl⟩ | ⟨x, rfl, hlc, hm, hz, hc, hwf⟩
  · exact ⟨rfl, .inl rfl, by simp⟩
  · refine ⟨by simp; omega, ?_, ?_⟩
    · by_cases h0 : len = 0
      · exact .inl h0
      · obtain ⟨b, off, rfl, hc'⟩ := ints_at hc (by omega)
        refine .inr ⟨b, off, rfl, fun i hi => ?_⟩
        rw [hc' i (by omega)]
        simp [hi]
    · intro i
      by_cases hi : i < (zs.take len).length
      · rw [List.getD_eq_getElem?_getD, List.getElem?_eq_getElem hi]
        exact bounds_u8 (hwf _ (List.mem_of_mem_take (List.getElem_mem hi)))
      · rw [List.getD_eq_getElem?_getD, List.getElem?_eq_none (by omega)]; simp

theorem len_in {w : World} {a : Option Addr} {len cap : Nat} {zs : List Int} {k : IntKind}
    (h : (a = none ∧ len = 0 ∧ cap = 0 ∧ zs = []) ∨ ∃ x, a = some x ∧ len ≤ cap ∧ cap ≤ maxLen ∧ zs.length = cap ∧ (∀ i, i < zs.length → w.cell? (x.add i) = some (.int k (zs.getD i 0))) ∧ ∀ n ∈ zs, (Lit.int k n).wf = true) :
    len ≤ maxLen := by
  rcases h with ⟨_, rfl, _⟩ | ⟨_, _, h1, h2, _⟩
  · exact Nat.zero_le _
  · exact Nat.le_trans h1 h2

/-- The cells that an append or a copy takes over. -/
theorem Reads.news {w : World} {a : Addr} {n : Nat} {zs : List Int} (h : Reads w (some a) n zs) : ∀ j u, (bys zs)[j]? = some u → w.cell? (a.add j) = some u := by
  intro j u hu
  have hj : j < zs.length := by
    have := (List.getElem?_eq_some_iff.1 hu).1
    simpa [bys] using this
  rcases h.cells with h0 | ⟨b, off, hb, hc⟩
  · have := h.len; omega
  · cases hb
    have e : (⟨b, off, none⟩ : Addr).add j = ⟨b, off + j, none⟩ := by unfold Addr.add; split <;> simp_all
    rw [e, hc j (by have := h.len; omega)]
    simpa [bys, hj] using hu
theorem bys_one (zs : List Int) : ∀ u ∈ bys zs, u.oneCell' = true := by
  intro u hu
  simp only [bys, List.mem_map] at hu
  obtain ⟨x, _, rfl⟩ := hu
  rfl
theorem Reads.pos {w : World} {ad : Option Addr} {n : Nat} {zs : List Int} (h : Reads w ad n zs) (hn : 0 < n) : ∃ b off, ad = some ⟨b, off, none⟩ := by
  rcases h.cells with h0 | ⟨b, off, hb, _⟩
  · omega
  · exact ⟨b, off, hb⟩

theorem getD_bys (zs : List Int) (i : Nat) : (bys zs)[i]? = (zs[i]?).map (Value.int .u8) := by simp [bys]
end Go.Proofs.YtoppccfgcccijaaDoor
/- Chapter 18, plain: decimal digits, hexadecimal digits. No program, no conditions. -/

namespace Go.Proofs.YtoppccfgcccijaaDoor
open Go.RowKit
set_option maxRecDepth 100000

/-- Decimal digits, the lowest first. -/
def lowD : Nat → Nat → List Int
  | 0, n => [48 + (n : Int)]
  | f + 1, n => if 9 < n then (48 + (n : Int) % 10) :: lowD f (n / 10) else [48 + (n : Int)]
def decN (n : Nat) : List Int := (lowD 20 n).reverse
def decI (n : Int) : List Int := if n < 0 then 45 :: decN (-n).toNat else decN n.toNat
theorem lowD_big {f n : Nat} (h : 9 < n) : lowD (f + 1) n = (48 + (n : Int) % 10) :: lowD f (n / 10) := by rw [lowD, if_pos h]
theorem lowD_one {f n : Nat} (h : ¬ 9 < n) : lowD f n = [48 + (n : Int)] := by
  cases f with
  | zero => rfl
  | succ f => rw [lowD, if_neg h]
theorem lowD_bd : ∀ (f n : Nat), n < 10 ^ (f + 1) → ∀ z ∈ lowD f n, 48 ≤ z ∧ z ≤ 57
  | 0, n, h, z, hz => by
    rw [lowD] at hz
    obtain rfl := List.mem_singleton.1 hz
    simp at h
    omega
  | f + 1, n, h, z, hz => by
    by_cases hn : 9 < n
    · rw [lowD_big hn] at hz
      rcases List.mem_cons.1 hz with rfl | hz
      · omega
      · exact lowD_bd f (n / 10) (by rw [Nat.pow_succ] at h; omega) z hz
    · rw [lowD_one hn] at hz
      obtain rfl := List.mem_singleton.1 hz
      omega
theorem lowD_len : ∀ (f n : Nat), 1 ≤ (lowD f n).length ∧ (lowD f n).length ≤ f + 1
  | 0, n => by simp [lowD]
  | f + 1, n => by
    have := lowD_len f (n / 10)
    by_cases hn : 9 < n
    · rw [lowD_big hn, List.length_cons]; omega
    · rw [lowD_one hn]; simp
theorem decN_len (n : Nat) : 1 ≤ (decN n).length ∧ (decN n).length ≤ 21 := by unfold decN; rw [List.length_reverse]; exact lowD_len 20 n
theorem decN_bd {n : Nat} (h : n ≤ 9223372036854775808) : ∀ z ∈ decN n, 48 ≤ z ∧ z ≤ 57 := fun z hz => lowD_bd 20 n (by omega) z (List.mem_reverse.1 hz)
theorem decI_len (n : Int) : 1 ≤ (decI n).length ∧ (decI n).length ≤ 23 := by
  unfold decI
  split
  · rw [List.length_cons]; have := decN_len (-n).toNat; omega
  · have := decN_len n.toNat; omega
theorem decI_bd {n : Int} (h : -9223372036854775808 ≤ n ∧ n ≤ 9223372036854775807) : ∀ z ∈ decI n, z = 45 ∨ (48 ≤ z ∧ z ≤ 57) := by
  unfold decI
  intro z hz
  split at hz
  · rcases List.mem_cons.1 hz with rfl | hz
    · exact .inl rfl
    · exact .inr (decN_bd (by omega) z hz)
  · exact .inr (decN_bd (by omega) z hz)
theorem decI_min : decI (-9223372036854775808) = [45, 57, 50, 50, 51, 51, 55, 50, 48, 51, 54, 56, 53, 52, 55, 55, 53, 56, 48, 56] := by decide +kernel
/-- Hexadecimal digits. -/
def hexD (d : Int) : Int := if d < 10 then 48 + d else 87 + d
def hexB (zs : List Int) : List Int := zs.flatMap (fun z => [hexD (z / 16), hexD (z % 16)])
theorem hexB_cons (z : Int) (zs : List Int) : hexB (z :: zs) = hexD (z / 16) :: hexD (z % 16) :: hexB zs := rfl
theorem hexB_app (a b : List Int) : hexB (a ++ b) = hexB a ++ hexB b := by unfold hexB; rw [List.flatMap_append]
theorem hexB_len : ∀ (zs : List Int), (hexB zs).length = 2 * zs.length
  | [] => rfl
  | z :: zs => by rw [hexB_cons, List.length_cons, List.length_cons, List.length_cons, hexB_len zs]; omega
theorem hexD_bd {d : Int} (h : 0 ≤ d ∧ d ≤ 15) : (48 ≤ hexD d ∧ hexD d ≤ 57) ∨ (97 ≤ hexD d ∧ hexD d ≤ 102) := by
  unfold hexD
  split <;> omega
theorem hexB_bd : ∀ (zs : List Int), (∀ z ∈ zs, 0 ≤ z ∧ z ≤ 255) → ∀ u ∈ hexB zs, (48 ≤ u ∧ u ≤ 57) ∨ (97 ≤ u ∧ u ≤ 102)
  | [], _, u, hu => by cases hu
  | z :: zs, h, u, hu => by
    have hz := h z (List.mem_cons_self ..)
    rw [hexB_cons] at hu
    rcases List.mem_cons.1 hu with rfl | hu
    · exact hexD_bd (by omega)
    · rcases List.mem_cons.1 hu with rfl | hu
      · exact hexD_bd (by omega)
      · exact hexB_bd zs (fun x hx => h x (List.mem_cons_of_mem _ hx)) u hu
/-- What a hexadecimal digit says; none: it is no digit. -/
def unD (c : Int) : Option Int := if 48 ≤ c ∧ c ≤ 57 then some (c - 48) else if 97 ≤ c ∧ c ≤ 102 then some (c - 87) else none
theorem unD_hexD {d : Int} (h : 0 ≤ d ∧ d ≤ 15) : unD (hexD d) = some d := by
  unfold unD hexD
  split
  · rw [if_pos (by omega)]; congr 1; omega
  · rw [if_neg (by omega), if_pos (by omega)]; congr 1; omega
/-- Bytes out of pairs of hexadecimal digits. -/
def unB : List Int → Option (List Int)
  | [] => some []
  | [_] => none
  | a :: b :: zs => match unD a, unD b, unB zs with
    | some x, some y, some r => some ((x * 16 + y) :: r)
    | _, _, _ => none
theorem unB_hexB : ∀ (zs : List Int), (∀ z ∈ zs, 0 ≤ z ∧ z ≤ 255) → unB (hexB zs) = some zs
  | [], _ => rfl
  | z :: zs, h => by
    have hz := h z (List.mem_cons_self ..)
    rw [hexB_cons, unB, unD_hexD (by omega), unD_hexD (by omega), unB_hexB zs (fun x hx => h x (List.mem_cons_of_mem _ hx))]
    simp only
    rw [show z / 16 * 16 + z % 16 = z by omega]
theorem hexB_inj {a b : List Int} (ha : ∀ z ∈ a, 0 ≤ z ∧ z ≤ 255) (hb : ∀ z ∈ b, 0 ≤ z ∧ z ≤ 255) (h : hexB a = hexB b) : a = b := by
  have := unB_hexB a ha
  rw [h, unB_hexB b hb] at this
  exact (Option.some.inj this).symm
/-- Digits tell their number. -/
def valL : List Int → Int
  | [] => 0
  | z :: zs => (z - 48) + 10 * valL zs
theorem valL_low : ∀ (f n : Nat), valL (lowD f n) = n
  | 0, n => by simp [lowD, valL]; omega
  | f + 1, n => by
    by_cases hn : 9 < n
    · rw [lowD_big hn, valL, valL_low f (n / 10)]; omega
    · rw [lowD_one hn]; simp [valL]; omega
theorem decN_inj {a b : Nat} (h : decN a = decN b) : a = b := by
  unfold decN at h
  have h2 := List.reverse_inj.1 h
  have := congrArg valL h2
  rw [valL_low, valL_low] at this
  omega
theorem decI_inj {a b : Int} (ha : -9223372036854775808 ≤ a ∧ a ≤ 9223372036854775807) (hb : -9223372036854775808 ≤ b ∧ b ≤ 9223372036854775807) (h : decI a = decI b) : a = b := by
  have hd : ∀ n : Nat, n ≤ 9223372036854775808 → ∀ l, decN n ≠ 45 :: l := fun n hn l e => by
    have := decN_bd hn 45 (by rw [e]; exact List.mem_cons_self ..)
    omega
  unfold decI at h
  split at h
  · split at h
    · have := decN_inj (List.cons.inj h).2; omega
    · exact absurd h.symm (hd _ (by omega) _)
  · split at h
    · exact absurd h (hd _ (by omega) _)
    · have := decN_inj h; omega
end Go.Proofs.YtoppccfgcccijaaDoor
/- The contracts of the law package's helpers: toByteS, eqByteS, markByteS, heldByteS. Conditions: lengths of at most 2^21 where memory is made or counted. -/




namespace Go.Proofs.YtoppccfgcccijaaDoor
open Go.RowKit
set_option maxRecDepth 100000

theorem Tryd.info5 : (Tryd.prog.info? 5).map (fun i => (i.zero, i.size, i.bytes)) = some (some (.int .u8 0), 1, 1) := by kernel_rfl

theorem set_take_step (zs : List Int) (k : Nat) (hk : k < zs.length) (m : Nat) (hm : m = zs.length) :
    (bys (zs.take k) ++ List.replicate (m - k) (Value.int .u8 0)).set k (.int .u8 (zs.getD k 0)) = bys (zs.take (k + 1)) ++ List.replicate (m - (k + 1)) (Value.int .u8 0) := by
  subst hm
  apply List.ext_getElem?
  intro j
  simp only [bys, List.getElem?_set, List.getElem?_append, List.getElem?_map, List.getElem?_replicate, List.length_map, List.length_take, List.length_append, List.length_replicate, List.getElem?_take]
  by_cases h1 : k = j
  · subst h1
    simp [hk, show min (k + 1) zs.length = k + 1 by omega, show min k zs.length = k by omega, show zs.length - k ≠ 0 by omega]
  · by_cases h2 : j < k
    · simp [h1, show j < min k zs.length by omega, show j < min (k+1) zs.length by omega, show j < k + 1 by omega, h2]
    · by_cases h3 : j < zs.length
      · simp [h1, show ¬ j < min k zs.length by omega, show ¬ j < min (k+1) zs.length by omega, show j - min k zs.length < zs.length - k by omega, show j - min (k+1) zs.length < zs.length - (k+1) by omega]
      · simp [h1, show ¬ j < min k zs.length by omega, show ¬ j < min (k+1) zs.length by omega, show ¬ j - min k zs.length < zs.length - k by omega, show ¬ j - min (k+1) zs.length < zs.length - (k+1) by omega]

set_option maxHeartbeats 800000 in
theorem toByteS_pos (b off n cap : Nat) (zs : List Int) (w : World) (hz : zs.length = n) (hn : n ≤ 2097152) (hb : b < w.heap.size)
    (hc : ∀ i, i < n → w.cell? ⟨b, off + i, none⟩ = some (.int .u8 (zs.getD i 0))) :
    Calls Tryd.prog 16 #[.slice (some ⟨b, off, none⟩) n cap] w fun e w' =>
      e = .returned (.slice (some ⟨w.heap.size, 0, none⟩) n n) ∧ w'.ownsRow w.heap.size 5 1 (.slice (some ⟨w.heap.size, 0, none⟩) n n) n (bys zs) ∧ Below w.heap.size w w' := by
  obtain ⟨i0, hi, hz0, hz1, hz2⟩ := info_parts Tryd.info5
  go_enter Tryd.func16, Tryd.ntmps16
  go_wp2_with (at_make; refine wpList_make_full _ rfl _ _ 23 rfl w.heap.size 5 i0 (.int .u8 0) 1 Tryd.underlying23 hi hz0 hz1 _ _ _ _ n rfl rfl (by omega) (by omega) ?b2 ?b3 (Nat.le_refl _) ?_)
  case b2 => rw [hz2]; omega
  case b3 => unfold maxLen; omega
  intro w0 hown0 hgrow0
  go_wp2
  go_loopw [4] (fun i wr => ∃ k : Nat, k ≤ n ∧ i = .int .i64 k ∧ wr.ownsRow w.heap.size 5 1 (.slice (some ⟨w.heap.size, 0, none⟩) n n) n (bys (zs.take k) ++ List.replicate (n - k) (Value.int .u8 0)) ∧ Below w.heap.size w wr)
    (fun i _ => n - (intOf i).toNat)
  case atStart =>
    refine ⟨0, Nat.zero_le _, rfl, ?_, (Below.refl _ _).grown hgrow0 (Nat.le_refl _) (fun k h => by cases h)⟩
    rw [toList_madeCells_one] at hown0
    simpa [bys] using hown0
  case round =>
    obtain ⟨k, hk, rfl, hown, hnx⟩ := hrel
    by_cases hlt : k < n
    · have hcx : wr.cell? ⟨b, off + k, none⟩ = some (.int .u8 (zs.getD k 0)) := (hnx.cell (by exact hb)).trans (hc k hlt)
      have hcy : wr.cell? ⟨w.heap.size, k, none⟩ = some (.int .u8 0) := by
        rw [hown.cellAt k (by omega), List.getElem?_append_right (by simp [bys]; omega)]
        simp [bys, hz, Nat.min_eq_left hk, show 0 < n - k by omega]
      have hfr : wr.frozen? ⟨w.heap.size, k, none⟩ = false := hown.frozenAt k
      have R := hown.stored k (.int .u8 (zs.getD k 0))
      rw [set_take_step zs k (by omega) n hz.symm] at R
      have R1 := hid R
      clear R hown
      generalize zs.getD k 0 = c at hcx R1
      go_wp2
      go_roundw
      case rel => exact ⟨k + 1, by omega, by go_num, by simpa using R1.out.1, hnx.setCell (Nat.le_refl _) _⟩
      case measure => simp [intOf]; omega
    · go_wp2
      go_ret
      have hkn : k = n := by omega
      subst hkn
      refine ⟨rfl, ?_, hnx⟩
      rw [List.take_of_length_le (by omega)] at hown
      simpa using hown

set_option maxHeartbeats 800000 in
theorem toByteS_zero (ad : Option Addr) (cap : Nat) (w : World) :
    Calls Tryd.prog 16 #[.slice ad 0 cap] w fun e w' =>
      e = .returned (.slice (some ⟨w.heap.size, 0, none⟩) 0 0) ∧ w'.ownsRow w.heap.size 5 1 (.slice (some ⟨w.heap.size, 0, none⟩) 0 0) 0 (bys []) ∧ Below w.heap.size w w' := by
  obtain ⟨i0, hi, hz0, hz1, hz2⟩ := info_parts Tryd.info5
  go_enter Tryd.func16, Tryd.ntmps16
  go_wp2_with (at_make; refine wpList_make_full _ rfl _ _ 23 rfl w.heap.size 5 i0 (.int .u8 0) 1 Tryd.underlying23 hi hz0 hz1 _ _ _ _ 0 rfl rfl (by omega) (by omega) ?b2 ?b3 (Nat.le_refl _) ?_)
  case b2 => rw [hz2]; omega
  case b3 => unfold maxLen; omega
  intro w0 hown0 hgrow0
  have H0 := hid hown0
  clear hown0
  go_wp2
  go_loopw [4] (fun i wr => i = .int .i64 (0 : Nat) ∧ wr = w0) (fun i _ => 0)
  case atStart => exact ⟨rfl, rfl⟩
  case round =>
    obtain ⟨rfl, rfl⟩ := hrel
    go_wp2
    go_ret
    refine ⟨rfl, ?_, (Below.refl _ _).grown hgrow0 (Nat.le_refl _) (fun k h => by cases h)⟩
    have h := H0.out
    simpa [bys, madeCells] using h

theorem toByteS_any {ad : Option Addr} {n : Nat} (cap : Nat) {zs : List Int} {w : World} (h : Reads w ad n zs) (hn : n ≤ 2097152) :
    Calls Tryd.prog 16 #[.slice ad n cap] w fun e w' =>
      e = .returned (.slice (some ⟨w.heap.size, 0, none⟩) n n) ∧ w'.ownsRow w.heap.size 5 1 (.slice (some ⟨w.heap.size, 0, none⟩) n n) n (bys zs) ∧ Below w.heap.size w w' := by
  obtain ⟨hl, hc, _⟩ := h
  by_cases h0 : n = 0
  · subst h0
    obtain rfl : zs = [] := List.eq_nil_of_length_eq_zero hl
    exact toByteS_zero ad cap w
  · rcases hc with h | ⟨b, off, rfl, hc⟩
    · exact absurd h h0
    · exact toByteS_pos b off n cap zs w hl hn (by have := World.block_lt_of_cell? w _ (hc 0 (by omega)); exact this) hc

set_option maxHeartbeats 800000 in
/-- Two slices that read alike are told alike. -/
theorem eqByteS_pos (b off cap b' off' cap' n : Nat) (zs : List Int) (w : World) (hn : n ≤ 2097152)
    (hc : ∀ i, i < n → w.cell? ⟨b, off + i, none⟩ = some (.int .u8 (zs.getD i 0))) (hc' : ∀ i, i < n → w.cell? ⟨b', off' + i, none⟩ = some (.int .u8 (zs.getD i 0))) :
    Calls Tryd.prog 10 #[.slice (some ⟨b, off, none⟩) n cap, .slice (some ⟨b', off', none⟩) n cap'] w fun e w' => e = .returned (.bool true) ∧ Still w w' := by
  go_enter Tryd.func10, Tryd.ntmps10
  go_wp2
  go_loopw [5] (fun i wr => ∃ k m : Nat, k ≤ n ∧ i = .int .i64 k ∧ wr = w.drewN m) (fun i _ => n - (intOf i).toNat)
  case atStart => exact ⟨0, 0, Nat.zero_le _, rfl, rfl⟩
  case round =>
    obtain ⟨k, m, hk, rfl, rfl⟩ := hrel
    by_cases hlt : k < n
    · have h1 := hc k hlt
      have h2 := hc' k hlt
      generalize zs.getD k 0 = c at h1 h2
      have hlt' : (k : Int) < (n : Int) := by omega
      go_wp2
      go_quiet (fail)
      go_wp2
      go_roundw
      case rel => exact ⟨k + 1, _, by omega, by go_num, rfl⟩
      case measure => simp [intOf]; omega
    · go_wp2
      go_ret
      exact ⟨rfl, Still.drewN _ _⟩

set_option maxHeartbeats 800000 in
theorem eqByteS_zero (ad ad' : Option Addr) (cap cap' : Nat) (w : World) :
    Calls Tryd.prog 10 #[.slice ad 0 cap, .slice ad' 0 cap'] w fun e w' => e = .returned (.bool true) ∧ Still w w' := by
  go_enter Tryd.func10, Tryd.ntmps10
  go_wp2
  go_loopw [5] (fun i wr => i = .int .i64 (0 : Nat) ∧ wr = w) (fun _ _ => 0)
  case atStart => exact ⟨rfl, rfl⟩
  case round =>
    obtain ⟨rfl, rfl⟩ := hrel
    go_wp2
    go_ret
    exact ⟨rfl, Still.refl _⟩

theorem eqByteS_any {ad ad' : Option Addr} {n : Nat} (cap cap' : Nat) {zs : List Int} {w : World} (h : Reads w ad n zs) (h' : Reads w ad' n zs) (hn : n ≤ 2097152) :
    Calls Tryd.prog 10 #[.slice ad n cap, .slice ad' n cap'] w fun e w' => e = .returned (.bool true) ∧ Still w w' := by
  obtain ⟨hl, hc, _⟩ := h
  obtain ⟨hl', hc', _⟩ := h'
  by_cases h0 : n = 0
  · subst h0; exact eqByteS_zero ad ad' cap cap' w
  · rcases hc with h | ⟨b, off, rfl, hc⟩
    · exact absurd h h0
    rcases hc' with h | ⟨b', off', rfl, hc'⟩
    · exact absurd h h0
    exact eqByteS_pos b off cap b' off' cap' n zs w hn hc hc'

set_option maxHeartbeats 800000 in
theorem markByteS_pos (base g n cap : Nat) (k : Int) (xs : List Value) (w : World) (hn : n ≤ 2097152) (hk0 : 0 ≤ k) (hk1 : k ≤ 1000000000)
    (hown : w.ownsRow base 5 1 (.slice (some ⟨g, 0, none⟩) n cap) n xs) :
    Calls Tryd.prog 13 #[.slice (some ⟨g, 0, none⟩) n cap, .int .i64 k] w fun e w' =>
      e = .returned (.int .i64 (k + n)) ∧ w'.ownsRow base 5 1 (.slice (some ⟨g, 0, none⟩) n cap) n (bys (marks k n)) ∧ w.grownBy w' (some g) := by
  have hxl : xs.length = n := by have := hown.1; omega
  go_enter Tryd.func13, Tryd.ntmps13
  go_wp2
  go_loopw [1, 5] (fun kk i wr => ∃ j : Nat, j ≤ n ∧ i = .int .i64 j ∧ kk = .int .i64 (k + j) ∧ wr.ownsRow base 5 1 (.slice (some ⟨g, 0, none⟩) n cap) n (bys (marks k j) ++ xs.drop j) ∧ w.grownBy wr (some g)) (fun _ i _ => n - (intOf i).toNat)
  case atStart => exact ⟨0, Nat.zero_le _, rfl, by simp, by simpa [marks, bys] using hown, ⟨rfl, rfl, rfl, Nat.le_refl _, fun _ _ _ => rfl⟩⟩
  case round =>
    obtain ⟨j, hj, rfl, rfl, hown', hg⟩ := hrel
    by_cases hlt : j < n
    · have hcy : ∃ v, wr.cell? ⟨g, j, none⟩ = some v := by
        rw [hown'.cellAt j (by omega)]
        exact ⟨_, List.getElem?_eq_getElem (by simp [bys, marks]; omega)⟩
      obtain ⟨v, hcy⟩ := hcy
      have hfr : wr.frozen? ⟨g, j, none⟩ = false := hown'.frozenAt j
      have R := hown'.stored j (.int .u8 ((k + j) % 256))
      rw [set_mid _ xs j _ (by simp [bys, marks]) (by omega)] at R
      have R1 := hid R
      clear R hown' hown
      go_wp2
      go_roundw
      case rel =>
        refine ⟨j + 1, by omega, by go_num, by go_num, ?_, grown_trans hg R1.out.2⟩
        rw [marks_succ, bys_append]
        exact R1.out.1
      case measure => simp [intOf]; omega
    · go_wp2
      go_ret
      obtain rfl : j = n := by omega
      rw [List.drop_eq_nil_of_le (by omega), List.append_nil] at hown'
      exact ⟨rfl, hown', hg⟩

set_option maxHeartbeats 800000 in
theorem markByteS_zero (ad : Option Addr) (cap : Nat) (k : Int) (w : World) :
    Calls Tryd.prog 13 #[.slice ad 0 cap, .int .i64 k] w fun e w' => e = .returned (.int .i64 k) ∧ w' = w := by
  go_enter Tryd.func13, Tryd.ntmps13
  go_wp2
  go_loopw [1, 5] (fun kk i wr => i = .int .i64 (0 : Nat) ∧ kk = .int .i64 k ∧ wr = w) (fun _ _ _ => 0)
  case atStart => exact ⟨rfl, rfl, rfl⟩
  case round =>
    obtain ⟨rfl, rfl, rfl⟩ := hrel
    go_wp2
    go_ret
    exact ⟨rfl, rfl⟩

theorem markByteS_any {base n : Nat} {v : Value} (k : Int) {xs : List Value} {w : World} (hn : n ≤ 2097152) (hk0 : 0 ≤ k) (hk1 : k ≤ 1000000000)
    (hown : w.ownsRow base 5 1 v n xs) :
    Calls Tryd.prog 13 #[v, .int .i64 k] w fun e w' =>
      e = .returned (.int .i64 (k + n)) ∧ w'.ownsRow base 5 1 v n (bys (marks k n)) ∧ w.grownBy w' v.ownBlock := by
  rcases hown.2 with ⟨rfl, rfl⟩ | ⟨g, cap, cur, rfl, _⟩
  · refine (markByteS_zero none 0 k w).mono fun e w' ⟨he, hw⟩ => ?_
    subst hw
    exact ⟨by rw [he]; simp, by simpa [marks, bys] using World.ownsRow_nil w' base 5 1, grown_refl _ _⟩
  · exact markByteS_pos base g n cap k xs w hn hk0 hk1 hown

set_option maxHeartbeats 800000 in
theorem heldByteS_pos (b off cap n : Nat) (k : Int) (w : World) (hn : n ≤ 2097152) (hk0 : 0 ≤ k) (hk1 : k ≤ 1000000000)
    (hc : ∀ i, i < n → w.cell? ⟨b, off + i, none⟩ = some (.int .u8 ((k + (i : Nat)) % 256))) :
    Calls Tryd.prog 14 #[.slice (some ⟨b, off, none⟩) n cap, .int .i64 k] w fun e w' => e = .returned (.int .i64 (k + n)) ∧ w' = w := by
  go_enter Tryd.func14, Tryd.ntmps14
  go_wp2
  go_loopw [1, 5] (fun kk i wr => ∃ j : Nat, j ≤ n ∧ i = .int .i64 j ∧ kk = .int .i64 (k + j) ∧ wr = w) (fun _ i _ => n - (intOf i).toNat)
  case atStart => exact ⟨0, Nat.zero_le _, rfl, by simp, rfl⟩
  case round =>
    obtain ⟨j, hj, rfl, rfl, rfl⟩ := hrel
    by_cases hlt : j < n
    · have h1 := hc j hlt
      go_wp2
      go_roundw
      case rel => exact ⟨j + 1, by omega, by go_num, by go_num, by first | trivial | rfl⟩
      case measure => simp [intOf]; omega
    · go_wp2
      go_ret
      obtain rfl : j = n := by omega
      exact ⟨rfl, rfl⟩

set_option maxHeartbeats 800000 in
theorem heldByteS_zero (ad : Option Addr) (cap : Nat) (k : Int) (w : World) :
    Calls Tryd.prog 14 #[.slice ad 0 cap, .int .i64 k] w fun e w' => e = .returned (.int .i64 k) ∧ w' = w := by
  go_enter Tryd.func14, Tryd.ntmps14
  go_wp2
  go_loopw [1, 5] (fun kk i wr => i = .int .i64 (0 : Nat) ∧ kk = .int .i64 k ∧ wr = w) (fun _ _ _ => 0)
  case atStart => exact ⟨rfl, rfl, rfl⟩
  case round =>
    obtain ⟨rfl, rfl, rfl⟩ := hrel
    go_wp2
    go_ret
    exact ⟨rfl, rfl⟩

theorem heldByteS_any {ad : Option Addr} {n : Nat} (cap : Nat) (k : Int) {w : World} (h : Reads w ad n (marks k n)) (hn : n ≤ 2097152) (hk0 : 0 ≤ k) (hk1 : k ≤ 1000000000) :
    Calls Tryd.prog 14 #[.slice ad n cap, .int .i64 k] w fun e w' => e = .returned (.int .i64 (k + n)) ∧ w' = w := by
  rcases h.cells with rfl | ⟨b, off, rfl, hc⟩
  · refine (heldByteS_zero ad cap k w).mono fun e w' ⟨he, hw⟩ => ⟨by rw [he]; simp, hw⟩
  · exact heldByteS_pos b off cap n k w hn hk0 hk1 fun i hi => by rw [hc i hi, marks_at k n i hi]
end Go.Proofs.YtoppccfgcccijaaDoor
/- Floats of 64 bits, by what they are worth: the number of least floats in each (its 'wval'), and what sums, differences, products and halves give where the result is exact. No statement of its own; no conditions. -/

namespace Go.Proofs.YtoppccfgcccijaaDoor
open Ieee

/-- How many of the least float a float is worth. -/
def wval (r : Nat) : Nat := if r < 2 ^ 52 then r else (2 ^ 52 + r % 2 ^ 52) * 2 ^ (r / 2 ^ 52 - 1)
/-- The float that is worth so many. -/
def rg (v : Nat) : Nat := (v.log2 - 52) * 2 ^ 52 + v / 2 ^ (v.log2 - 52)

theorem log2_mul_pow (m k : Nat) (h : 0 < m) : (m * 2 ^ k).log2 = m.log2 + k := by
  have hm : m ≠ 0 := by omega
  have h1 := Nat.log2_self_le hm
  have h2 := Nat.lt_log2_self (n := m)
  have hp : 0 < 2 ^ k := Nat.two_pow_pos k
  refine (Nat.log2_eq_iff (Nat.mul_ne_zero hm (by omega))).2 ⟨?_, ?_⟩
  · rw [Nat.pow_add]; exact Nat.mul_le_mul_right _ h1
  · rw [show m.log2 + k + 1 = (m.log2 + 1) + k by omega, Nat.pow_add]; exact Nat.mul_lt_mul_of_pos_right h2 hp

theorem cut_even (s : Bool) (q d : Nat) : Toward.even.cut s (q * 2 ^ d) d = q := by
  have hp : 0 < 2 ^ d := Nat.two_pow_pos d
  by_cases hq : q = 0
  · subst hq
    have : 0 < 1 <<< min d 2 := by rw [Nat.one_shiftLeft]; exact Nat.two_pow_pos _
    simp only [Toward.cut, Nat.zero_mul, Nat.log2_zero, Nat.zero_add, Nat.zero_div, Nat.zero_mod, Nat.mul_zero]
    have h1 : ¬ (1 <<< min d 2 < 0) := by omega
    have h2 : ((1 <<< min d 2) == 0) = false := beq_eq_false_iff_ne.2 (by omega)
    simp [h2]
  · have hl := log2_mul_pow q d (by omega)
    have hm : min d ((q * 2 ^ d).log2 + 2) = d := by omega
    simp only [Toward.cut, hm, Nat.one_shiftLeft]
    rw [Nat.mul_div_cancel _ hp, Nat.mul_mod_left]
    have h2 : ((2 ^ d) == 2 * 0) = false := beq_eq_false_iff_ne.2 (by omega)
    simp [h2]

theorem cut_zero (s : Bool) (n d : Nat) : Toward.zero.cut s n d = n / 2 ^ d := by
  simp only [Toward.cut, Nat.one_shiftLeft, Bool.toNat_false, Nat.add_zero]
  by_cases h : d ≤ n.log2 + 2
  · rw [Nat.min_eq_left h]
  · have h1 : n < 2 ^ (n.log2 + 1) := Nat.lt_log2_self
    have h2 : 2 ^ (n.log2 + 1) ≤ 2 ^ (n.log2 + 2) := Nat.pow_le_pow_right (by omega) (by omega)
    have h3 : 2 ^ (n.log2 + 2) ≤ 2 ^ d := Nat.pow_le_pow_right (by omega) (by omega)
    rw [Nat.min_eq_right (by omega), Nat.div_eq_of_lt (by omega), Nat.div_eq_of_lt (by omega)]

theorem lp : double.leastPlace = -1074 := by decide
theorem fb : double.fractionBits = 52 := rfl
theorem bin : double.binade = 2 ^ 52 := rfl
theorem infR : double.infRung = 2047 * 2 ^ 52 := by decide
theorem sw : double.signWeight = 2 ^ 63 := rfl

theorem rg_zero : rg 0 = 0 := by decide

/-- A number that is worth v whole least floats, v of at most 53 digits and noughts, is just that float. -/
theorem nearest_rg (s : Bool) (m : Nat) (p : Int) (v : Nat) (h : m * 2 ^ (p + 1074).toNat = v * 2 ^ (-1074 - p).toNat) (hd : 2 ^ (v.log2 - 52) ∣ v) :
    double.nearest s m p = double.word s (min (rg v) (2047 * 2 ^ 52)) := by
  by_cases hm : m = 0
  · subst hm
    have hp : 0 < 2 ^ (-1074 - p).toNat := Nat.two_pow_pos _
    have hv : v = 0 := by
      rw [Nat.zero_mul] at h
      rcases Nat.mul_eq_zero.1 h.symm with h | h
      · exact h
      · omega
    subst hv
    rw [rg_zero]
    simp [Format.nearest]
  · have hv : 0 < v := by
      rcases Nat.eq_zero_or_pos v with rfl | h0
      · rw [Nat.zero_mul] at h
        rcases Nat.mul_eq_zero.1 h with h | h
        · exact absurd h hm
        · have := Nat.two_pow_pos (p + 1074).toNat; omega
      · exact h0
    have hl : m.log2 + (p + 1074).toNat = v.log2 + (-1074 - p).toNat := by
      rw [← log2_mul_pow m _ (by omega), ← log2_mul_pow v _ hv, h]
    obtain ⟨q, hq⟩ := hd
    have hrg : rg v = (v.log2 - 52) * 2 ^ 52 + q := by
      unfold rg
      have hp : 0 < 2 ^ (v.log2 - 52) := Nat.two_pow_pos _
      have : v / 2 ^ (v.log2 - 52) = q := by
        rw [Nat.div_eq_iff_eq_mul_left hp ⟨q, hq⟩, Nat.mul_comm]
        exact hq
      rw [this]
    have hK : max (p + (m.log2 : Int) - (52 : Nat)) (-1074) = ((v.log2 - 52 : Nat) : Int) - 1074 := by omega
    rw [hrg]
    have hkept : Toward.even.cut s (m <<< (p - (((v.log2 - 52 : Nat) : Int) - 1074)).toNat) ((((v.log2 - 52 : Nat) : Int) - 1074) - p).toNat = q := by
      clear hK hrg hl
      generalize v.log2 - 52 = K at hq
      rw [hq] at h
      by_cases ht : (K : Int) ≤ p + 1074
      · obtain ⟨t, ht'⟩ : ∃ t : Nat, p + 1074 = K + t := ⟨(p + 1074 - K).toNat, by omega⟩
        have e1 : (p - ((K : Int) - 1074)).toNat = t := by omega
        have e2 : (((K : Int) - 1074) - p).toNat = 0 := by omega
        have e3 : (p + 1074).toNat = K + t := by omega
        have e4 : (-1074 - p).toNat = 0 := by omega
        rw [e3, e4, Nat.pow_zero, Nat.mul_one, Nat.pow_add] at h
        rw [e1, e2, Nat.shiftLeft_eq]
        have hp : 0 < 2 ^ K := Nat.two_pow_pos _
        have : m * 2 ^ t = q := by
          apply Nat.eq_of_mul_eq_mul_left hp
          rw [← h, ← Nat.mul_assoc, Nat.mul_comm (2 ^ K) m, Nat.mul_assoc]
        rw [this]
        have := cut_even s q 0
        rwa [Nat.pow_zero, Nat.mul_one] at this
      · obtain ⟨t, ht'⟩ : ∃ t : Nat, (K : Int) = p + 1074 + t := ⟨(K - (p + 1074)).toNat, by omega⟩
        have e1 : (p - ((K : Int) - 1074)).toNat = 0 := by omega
        have e2 : (((K : Int) - 1074) - p).toNat = t := by omega
        rw [e1, e2, Nat.shiftLeft_eq, Nat.pow_zero, Nat.mul_one]
        have : m = q * 2 ^ t := by
          by_cases hA : 0 ≤ p + 1074
          · obtain ⟨A, hA'⟩ : ∃ A : Nat, p + 1074 = A := ⟨(p + 1074).toNat, by omega⟩
            have e3 : (p + 1074).toNat = A := by omega
            have e4 : (-1074 - p).toNat = 0 := by omega
            have e5 : K = A + t := by omega
            rw [e3, e4, Nat.pow_zero, Nat.mul_one, e5, Nat.pow_add] at h
            have hp : 0 < 2 ^ A := Nat.two_pow_pos _
            apply Nat.eq_of_mul_eq_mul_right hp
            rw [h, Nat.mul_comm q, Nat.mul_assoc, Nat.mul_assoc, Nat.mul_comm, Nat.mul_assoc]
          · obtain ⟨A, hA'⟩ : ∃ A : Nat, p + 1074 = -A := ⟨(-(p + 1074)).toNat, by omega⟩
            have e3 : (p + 1074).toNat = 0 := by omega
            have e4 : (-1074 - p).toNat = A := by omega
            have e5 : t = K + A := by omega
            rw [e3, e4, Nat.pow_zero, Nat.mul_one] at h
            rw [h, e5, Nat.pow_add, Nat.mul_comm (2 ^ K) q, Nat.mul_assoc]
        rw [this, cut_even]
    simp only [Format.nearest, hm, if_false, lp, fb, bin, infR]
    rw [hK, hkept]
    have e : ((((v.log2 - 52 : Nat) : Int) - 1074) - -1074).toNat = v.log2 - 52 := by omega
    rw [e]

/-- v is worth a float: it has at most 53 digits and noughts behind them, and isn't too great. -/
def Rep (v : Nat) : Prop := rg v < 2047 * 2 ^ 52 ∧ wval (rg v) = v ∧ 2 ^ (v.log2 - 52) ∣ v

theorem rep_of (c j : Nat) (hc : c < 2 ^ 53) (hv : j ≤ 2045) : Rep (c * 2 ^ j) := by
  by_cases h0 : c = 0
  · subst h0
    rw [Nat.zero_mul]
    refine ⟨by rw [rg_zero]; decide, by rw [rg_zero]; decide, ⟨0, by simp⟩⟩
  · have hl := log2_mul_pow c j (by omega)
    have hcl : c.log2 < 53 := (Nat.log2_lt h0).2 hc
    have hdvd : 2 ^ ((c * 2 ^ j).log2 - 52) ∣ c * 2 ^ j := Nat.dvd_trans (Nat.pow_dvd_pow 2 (by omega)) ⟨c, Nat.mul_comm _ _⟩
    have hpos : c * 2 ^ j ≠ 0 := Nat.mul_ne_zero h0 (by have := Nat.two_pow_pos j; omega)
    generalize c * 2 ^ j = v at *
    have hL := Nat.log2_self_le hpos
    have hU := Nat.lt_log2_self (n := v)
    have hLv : v.log2 < 2098 := by omega
    unfold Rep rg
    by_cases hs : v.log2 ≤ 52
    · have e : v.log2 - 52 = 0 := by omega
      rw [e] at hdvd ⊢
      rw [Nat.pow_zero, Nat.zero_mul, Nat.zero_add, Nat.div_one]
      have h53 : v < 2 ^ 53 := Nat.lt_of_lt_of_le hU (Nat.pow_le_pow_right (by omega) (by omega))
      refine ⟨by omega, ?_, ⟨v, by omega⟩⟩
      unfold wval
      split
      · rfl
      · have : v / 2 ^ 52 = 1 := by omega
        rw [this]
        omega
    · obtain ⟨K, hK⟩ : ∃ K, v.log2 = 52 + K := ⟨v.log2 - 52, by omega⟩
      have e : v.log2 - 52 = K := by omega
      rw [e] at hdvd ⊢
      rw [hK] at hL hU
      obtain ⟨q, rfl⟩ := hdvd
      have hp : 0 < 2 ^ K := Nat.two_pow_pos _
      rw [Nat.mul_div_cancel_left _ hp]
      have hq1 : 2 ^ 52 ≤ q := by
        rw [Nat.pow_add, Nat.mul_comm] at hL
        exact Nat.le_of_mul_le_mul_left hL hp
      have hq2 : q < 2 ^ 53 := by
        rw [show 52 + K + 1 = K + 53 by omega, Nat.pow_add] at hU
        exact Nat.lt_of_mul_lt_mul_left hU
      have hKl : K ≤ 2045 := by omega
      refine ⟨by omega, ?_, ⟨q, rfl⟩⟩
      unfold wval
      have h1 : ¬ (K * 2 ^ 52 + q < 2 ^ 52) := by omega
      have h2 : (K * 2 ^ 52 + q) / 2 ^ 52 = K + 1 := by omega
      have h3 : (K * 2 ^ 52 + q) % 2 ^ 52 = q - 2 ^ 52 := by omega
      have h4 : 2 ^ 52 + (q - 2 ^ 52) = q := by omega
      rw [if_neg h1, h2, h3, h4, Nat.add_sub_cancel, Nat.mul_comm]

theorem wval_lt (a b : Nat) (h : a < b) : wval a < wval b := by
  unfold wval
  by_cases hb : b < 2 ^ 52
  · rw [if_pos hb, if_pos (by omega)]
    exact h
  · rw [if_neg hb]
    have hm : a % 2 ^ 52 < 2 ^ 52 := Nat.mod_lt _ (by omega)
    by_cases ha : a < 2 ^ 52
    · rw [if_pos ha]
      have hp : 0 < 2 ^ (b / 2 ^ 52 - 1) := Nat.two_pow_pos _
      have : (2 ^ 52 + b % 2 ^ 52) * 1 ≤ (2 ^ 52 + b % 2 ^ 52) * 2 ^ (b / 2 ^ 52 - 1) := Nat.mul_le_mul_left _ hp
      omega
    · rw [if_neg ha]
      have hab : a / 2 ^ 52 ≤ b / 2 ^ 52 := Nat.div_le_div_right (by omega)
      by_cases he : a / 2 ^ 52 = b / 2 ^ 52
      · rw [he]
        exact Nat.mul_lt_mul_of_pos_right (by omega) (Nat.two_pow_pos _)
      · obtain ⟨t, ht⟩ : ∃ t, b / 2 ^ 52 - 1 = (a / 2 ^ 52 - 1) + 1 + t := ⟨b / 2 ^ 52 - 1 - (a / 2 ^ 52 - 1) - 1, by omega⟩
        rw [ht, Nat.pow_add, Nat.pow_succ (n := 2) (m := a / 2 ^ 52 - 1)]
        have hp : 0 < 2 ^ (a / 2 ^ 52 - 1) := Nat.two_pow_pos _
        have ht' : 0 < 2 ^ t := Nat.two_pow_pos _
        generalize 2 ^ (a / 2 ^ 52 - 1) = P at *
        calc (2 ^ 52 + a % 2 ^ 52) * P < (2 ^ 52 * 2) * P := Nat.mul_lt_mul_of_pos_right (by omega) hp
          _ = 2 ^ 52 * (P * 2) := by rw [Nat.mul_assoc, Nat.mul_comm 2 P]
          _ ≤ 2 ^ 52 * (P * 2 * 2 ^ t) := Nat.mul_le_mul_left _ (Nat.le_mul_of_pos_right _ ht')
          _ ≤ (2 ^ 52 + b % 2 ^ 52) * (P * 2 * 2 ^ t) := Nat.mul_le_mul_right _ (by omega)

theorem wval_inj (a b : Nat) (h : wval a = wval b) : a = b := by
  rcases Nat.lt_trichotomy a b with h' | h' | h'
  · have := wval_lt a b h'; omega
  · exact h'
  · have := wval_lt b a h'; omega

/-- A finite float as 53 digits and noughts. -/
theorem wval_form (r : Nat) (h : r < 2047 * 2 ^ 52) : ∃ c j, c < 2 ^ 53 ∧ wval r = c * 2 ^ j ∧ j ≤ 2045 := by
  unfold wval
  have hm : r % 2 ^ 52 < 2 ^ 52 := Nat.mod_lt _ (by omega)
  split
  · exact ⟨r, 0, by omega, by rw [Nat.pow_zero, Nat.mul_one], by omega⟩
  · exact ⟨_, _, by omega, rfl, by omega⟩

theorem rep_wval (r : Nat) (h : r < 2047 * 2 ^ 52) : Rep (wval r) := by
  obtain ⟨c, j, hc, he, hv⟩ := wval_form r h
  rw [he]
  exact rep_of c j hc hv

theorem rg_wval (r : Nat) (h : r < 2047 * 2 ^ 52) : rg (wval r) = r := wval_inj _ _ (rep_wval r h).2.1

/-- What a finite float is read as. -/
theorem read_word (s : Bool) (r : Nat) (h : r < 2047 * 2 ^ 52) : ∃ m : Nat, ∃ k : Nat, double.read (double.word s r) = .number s m ((k : Int) - 1074) ∧ m * 2 ^ k = wval r ∧ m < 2 ^ 53 := by
  have h63 : r < 2 ^ 63 := by omega
  have hs : (double.word s r / double.signWeight % 2 == 1) = s := by
    unfold Format.word
    rw [sw]
    cases s
    · rw [if_neg (by simp)]
      have : r / 2 ^ 63 = 0 := by omega
      rw [this]; rfl
    · rw [if_pos rfl]
      have : (2 ^ 63 + r) / 2 ^ 63 % 2 = 1 := by omega
      rw [this]; rfl
  have hr : double.word s r % double.signWeight = r := by
    unfold Format.word
    rw [sw]
    cases s
    · rw [if_neg (by simp)]; omega
    · rw [if_pos rfl]; omega
  simp only [Format.read, hs, hr, bin, infR, lp]
  have hm : r % 2 ^ 52 < 2 ^ 52 := Nat.mod_lt _ (by omega)
  by_cases h1 : r < 2 ^ 52
  · rw [if_pos h1]
    refine ⟨r, 0, rfl, ?_, by omega⟩
    rw [wval, if_pos h1, Nat.pow_zero, Nat.mul_one]
  · rw [if_neg h1, if_pos h]
    refine ⟨2 ^ 52 + r % 2 ^ 52, r / 2 ^ 52 - 1, ?_, ?_, ?_⟩
    · congr 1
    · rw [wval, if_neg h1]
    · omega

/-- A number that is just worth the float r is written as r. -/
theorem write_word (s : Bool) (m : Nat) (p : Int) (r : Nat) (hr : r < 2047 * 2 ^ 52) (h : m * 2 ^ (p + 1074).toNat = wval r * 2 ^ (-1074 - p).toNat) : double.write (.number s m p) = double.word s r := by
  have hR := rep_wval r hr
  have := nearest_rg s m p (wval r) h hR.2.2
  rw [rg_wval r hr, Nat.min_eq_left (by omega)] at this
  exact this

theorem shift (M V A B : Nat) (h : M * 2 ^ A = V * 2 ^ B) : M * 2 ^ ((A : Int) - B).toNat = V * 2 ^ ((B : Int) - A).toNat := by
  by_cases hAB : B ≤ A
  · obtain ⟨t, rfl⟩ : ∃ t, A = B + t := ⟨A - B, by omega⟩
    have e1 : (((B + t : Nat) : Int) - B).toNat = t := by omega
    have e2 : ((B : Int) - ((B + t : Nat) : Int)).toNat = 0 := by omega
    rw [e1, e2, Nat.pow_zero, Nat.mul_one]
    have hp : 0 < 2 ^ B := Nat.two_pow_pos _
    apply Nat.eq_of_mul_eq_mul_right hp
    rw [← h, Nat.pow_add, Nat.mul_assoc, Nat.mul_comm (2 ^ t)]
  · obtain ⟨t, rfl⟩ : ∃ t, B = A + t := ⟨B - A, by omega⟩
    have e1 : (((A + t : Nat) : Int) - A).toNat = t := by omega
    have e2 : ((A : Int) - ((A + t : Nat) : Int)).toNat = 0 := by omega
    rw [e1, e2, Nat.pow_zero, Nat.mul_one]
    have hp : 0 < 2 ^ A := Nat.two_pow_pos _
    apply Nat.eq_of_mul_eq_mul_right hp
    rw [h, Nat.pow_add, Nat.mul_assoc, Nat.mul_comm (2 ^ A)]

/-- The same, by two powers. -/
theorem write_by (s : Bool) (m : Nat) (p : Int) (r A B : Nat) (hr : r < 2047 * 2 ^ 52) (hp : p + 1074 = (A : Int) - B) (h : m * 2 ^ A = wval r * 2 ^ B) : double.write (.number s m p) = double.word s r := by
  refine write_word s m p r hr ?_
  rw [show (-1074 - p : Int) = (B : Int) - A by omega, hp]
  exact shift _ _ _ _ h

theorem mul_exact (s t : Bool) (a b c : Nat) (ha : a < 2047 * 2 ^ 52) (hb : b < 2047 * 2 ^ 52) (hc : c < 2047 * 2 ^ 52) (h : wval a * wval b = wval c * 2 ^ 1074) :
    double.mul (double.word s a) (double.word t b) = some (double.word (s ^^ t) c) := by
  obtain ⟨m, k, e1, v1, -⟩ := read_word s a ha
  obtain ⟨n, l, e2, v2, -⟩ := read_word t b hb
  rw [Format.mul, e1, e2]
  simp only [Datum.product, Option.map_some]
  rw [write_by (s ^^ t) _ _ c (k + l) 1074 hc (by omega)]
  rw [← h, ← v1, ← v2, Nat.pow_add, Nat.mul_assoc, Nat.mul_assoc, ← Nat.mul_assoc n, ← Nat.mul_assoc (2 ^ k), Nat.mul_comm (2 ^ k) n]

theorem shl_to (m k b : Nat) (h : b ≤ k) : m <<< (((k : Int) - 1074) - ((b : Int) - 1074)).toNat * 2 ^ b = m * 2 ^ k := by
  rw [show (((k : Int) - 1074) - ((b : Int) - 1074)).toNat = k - b by omega, Nat.shiftLeft_eq, Nat.mul_assoc, ← Nat.pow_add, Nat.sub_add_cancel h]

theorem min_place (k l : Nat) : min ((k : Int) - 1074) ((l : Int) - 1074) = ((min k l : Nat) : Int) - 1074 := by omega

theorem add_exact (a b c : Nat) (ha : a < 2047 * 2 ^ 52) (hb : b < 2047 * 2 ^ 52) (hc : c < 2047 * 2 ^ 52) (h : wval a + wval b = wval c) :
    double.add a b = some c := by
  obtain ⟨m, k, e1, v1, -⟩ := read_word false a ha
  obtain ⟨n, l, e2, v2, -⟩ := read_word false b hb
  have ea : double.word false a = a := rfl
  have eb : double.word false b = b := rfl
  have ec : double.word false c = c := rfl
  rw [ea] at e1
  rw [eb] at e2
  rw [Format.add, e1, e2]
  simp only [Datum.sum, Option.map_some, min_place, signed, Bool.false_eq_true, if_false, Bool.and_self]
  have h1 := shl_to m k (min k l) (Nat.min_le_left _ _)
  have h2 := shl_to n l (min k l) (Nat.min_le_right _ _)
  generalize m <<< (((k : Int) - 1074) - (((min k l : Nat) : Int) - 1074)).toNat = X at *
  generalize n <<< (((l : Int) - 1074) - (((min k l : Nat) : Int) - 1074)).toNat = Y at *
  have hs : (if (X : Int) + Y = 0 then false else decide ((X : Int) + Y < 0)) = false := by
    split
    · rfl
    · exact decide_eq_false (by omega)
  have hn : ((X : Int) + Y).natAbs = X + Y := by omega
  rw [hs, hn, write_by false _ _ c (min k l) 0 hc (by omega), ec]
  rw [Nat.pow_zero, Nat.mul_one, Nat.add_mul, h1, h2, ← h, v1, v2]

theorem sub_exact (a b c : Nat) (ha : a < 2047 * 2 ^ 52) (hb : b < 2047 * 2 ^ 52) (hc : c < 2047 * 2 ^ 52) (h : wval a = wval b + wval c) :
    double.sub a b = some c := by
  obtain ⟨m, k, e1, v1, -⟩ := read_word false a ha
  obtain ⟨n, l, e2, v2, -⟩ := read_word false b hb
  have ea : double.word false a = a := rfl
  have eb : double.word false b = b := rfl
  have ec : double.word false c = c := rfl
  rw [ea] at e1
  rw [eb] at e2
  rw [Format.sub, e1, e2]
  simp only [Datum.opposite, Datum.sum, Option.map_some, min_place, signed, Bool.false_eq_true, if_false, Bool.not_false, if_true, Bool.and_true]
  have h1 := shl_to m k (min k l) (Nat.min_le_left _ _)
  have h2 := shl_to n l (min k l) (Nat.min_le_right _ _)
  generalize m <<< (((k : Int) - 1074) - (((min k l : Nat) : Int) - 1074)).toNat = X at *
  generalize n <<< (((l : Int) - 1074) - (((min k l : Nat) : Int) - 1074)).toNat = Y at *
  have hp : 0 < 2 ^ min k l := Nat.two_pow_pos _
  have hXY : Y ≤ X := by
    apply Nat.le_of_mul_le_mul_right _ hp
    omega
  have hs : (if (X : Int) + -(Y : Int) = 0 then false else decide ((X : Int) + -(Y : Int) < 0)) = false := by
    split
    · rfl
    · exact decide_eq_false (by omega)
  have hn : ((X : Int) + -(Y : Int)).natAbs = X - Y := by omega
  rw [hs, hn, write_by false _ _ c (min k l) 0 hc (by omega), ec]
  rw [Nat.pow_zero, Nat.mul_one, Nat.sub_mul, h1, h2]
  omega

theorem half_exact (s : Bool) (d a c q : Nat) (hd : double.read d = .number false (2 ^ 52) ((q : Int) - 52)) (ha : a < 2047 * 2 ^ 52) (hc : c < 2047 * 2 ^ 52) (h : wval a = wval c * 2 ^ q) :
    double.div (double.word s a) d = some (double.word s c) := by
  obtain ⟨m, k, e1, v1, hm⟩ := read_word s a ha
  have hl : m.log2 ≤ 52 := by
    by_cases h0 : m = 0
    · subst h0; decide
    · have := (Nat.log2_lt h0).2 hm
      omega
  have h52 : (2 ^ 52 : Nat).log2 = 52 := by decide
  have hn0 : ¬ ((2 : Nat) ^ 52 = 0) := by decide
  rw [Format.div, e1, hd]
  simp only [Datum.quotient, fb, hn0, if_false, h52, Option.map_some, Bool.xor_false]
  obtain ⟨t, ht⟩ : ∃ t, 52 + 2 + 52 - m.log2 = 52 + t := ⟨52 + 2 - m.log2, by omega⟩
  rw [ht]
  have hdiv : m <<< (52 + t) = (m * 2 ^ t) * 2 ^ 52 := by rw [Nat.shiftLeft_eq, Nat.pow_add, Nat.mul_comm (2 ^ 52), Nat.mul_assoc]
  rw [hdiv, Nat.mul_div_cancel _ (by decide), Nat.mul_mod_left]
  simp only [bne_self_eq_false, Bool.toNat_false, Nat.add_zero]
  rw [write_by s _ _ c k (q + t + 1) hc (by omega)]
  have e : 2 * (m * 2 ^ t) * 2 ^ k = (m * 2 ^ k) * 2 ^ t * 2 := by ac_rfl
  rw [e, v1, h, Nat.pow_succ, Nat.pow_add]
  ac_rfl

/-- Cut towards zero. -/
theorem toInt_exact (a : Nat) (ha : a < 2047 * 2 ^ 52) (n : Nat) (h : wval a = n * 2 ^ 1074) : (double.read a).toInt .zero = some (n : Int) := by
  obtain ⟨m, k, e1, v1, hm⟩ := read_word false a ha
  have ea : double.word false a = a := rfl
  rw [ea] at e1
  rw [e1]
  simp only [Datum.toInt, Datum.integral, signed, Bool.false_eq_true, if_false, Nat.shiftLeft_zero, cut_zero]
  rw [← v1] at h
  have := shift _ _ _ _ h
  rw [Nat.shiftLeft_eq]
  have e1 : (k : Int) - ((1074 : Nat) : Int) = (k : Int) - 1074 := rfl
  have e2 : ((1074 : Nat) : Int) - (k : Int) = -((k : Int) - 1074) := by omega
  rw [e1, e2] at this
  rw [this, Nat.mul_div_cancel _ (Nat.two_pow_pos _)]

/-- A word by its sign and its place. -/
theorem word_of (x : Nat) (h : x < 2 ^ 64) : ∃ s r, r < 2 ^ 63 ∧ x = double.word s r := by
  by_cases hx : x < 2 ^ 63
  · exact ⟨false, x, hx, rfl⟩
  · exact ⟨true, x - 2 ^ 63, by omega, by unfold Format.word; rw [sw, if_pos rfl]; omega⟩

theorem sign_of (s : Bool) (r : Nat) (h : r < 2 ^ 63) : (double.word s r / double.signWeight % 2 == 1) = s := by
  unfold Format.word
  rw [sw]
  cases s
  · rw [if_neg (by simp)]
    have : r / 2 ^ 63 = 0 := by omega
    rw [this]; rfl
  · rw [if_pos rfl]
    have : (2 ^ 63 + r) / 2 ^ 63 % 2 = 1 := by omega
    rw [this]; rfl
theorem place_of (s : Bool) (r : Nat) (h : r < 2 ^ 63) : double.word s r % double.signWeight = r := by
  unfold Format.word
  rw [sw]
  cases s
  · rw [if_neg (by simp)]; omega
  · rw [if_pos rfl]; omega
theorem read_inf (s : Bool) : double.read (double.word s (2047 * 2 ^ 52)) = .infinity s := by cases s <;> decide
theorem read_nan (s : Bool) (r : Nat) (h : 2047 * 2 ^ 52 < r) (h' : r < 2 ^ 63) : double.read (double.word s r) = .nan s (r - 2047 * 2 ^ 52) := by
  simp only [Format.read, sign_of s r h', place_of s r h', bin, infR]
  rw [if_neg (by omega), if_neg (by omega), if_neg (by omega)]

/-- Where a float stands among all. -/
def key (s : Bool) (r : Nat) : Int := if s then -(r : Int) else r
def sv (s : Bool) (r : Nat) : Int := if s then -(wval r : Int) else wval r

theorem wval_pos (a : Nat) (h : 0 < a) : 0 < wval a := by
  have := wval_lt 0 a h
  omega
theorem wval_zero : wval 0 = 0 := by decide

theorem sv_lt (s t : Bool) (a b : Nat) : sv s a < sv t b ↔ key s a < key t b := by
  have hz := wval_zero
  have h1 : a < b ↔ wval a < wval b := ⟨wval_lt a b, fun h => by
    rcases Nat.lt_trichotomy a b with h' | h' | h'
    · exact h'
    · subst h'; omega
    · have := wval_lt b a h'; omega⟩
  have h2 : b < a ↔ wval b < wval a := ⟨wval_lt b a, fun h => by
    rcases Nat.lt_trichotomy a b with h' | h' | h'
    · have := wval_lt a b h'; omega
    · subst h'; omega
    · exact h'⟩
  have h3 : 0 < a ↔ 0 < wval a := ⟨wval_pos a, fun h => by
    rcases Nat.eq_zero_or_pos a with rfl | h'
    · omega
    · exact h'⟩
  have h4 : 0 < b ↔ 0 < wval b := ⟨wval_pos b, fun h => by
    rcases Nat.eq_zero_or_pos b with rfl | h'
    · omega
    · exact h'⟩
  cases s <;> cases t <;> simp only [sv, key, if_true, Bool.false_eq_true, if_false] <;> omega

theorem cmp_eq (x y x' y' : Int) (h1 : x < y ↔ x' < y') (h2 : y < x ↔ y' < x') : compare x y = compare x' y' := by
  simp only [compare, compareOfLessAndEq]
  by_cases h : x < y
  · rw [if_pos h, if_pos (h1.1 h)]
  · rw [if_neg h, if_neg (fun h' => h (h1.2 h'))]
    by_cases e : x = y
    · rw [if_pos e, if_pos (by omega)]
    · rw [if_neg e, if_neg (by omega)]

theorem signed_mul (s : Bool) (m k b : Nat) (h : b ≤ k) : signed s m (((k : Int) - 1074) - ((b : Int) - 1074)).toNat * (2 ^ b : Nat) = if s then -((m * 2 ^ k : Nat) : Int) else ((m * 2 ^ k : Nat) : Int) := by
  have := shl_to m k b h
  unfold signed
  cases s
  · simp only [Bool.false_eq_true, if_false]
    rw [← Int.natCast_mul, this]
  · simp only [if_true]
    rw [Int.neg_mul, ← Int.natCast_mul, this]

theorem order_key (s t : Bool) (a b : Nat) (ha : a ≤ 2047 * 2 ^ 52) (hb : b ≤ 2047 * 2 ^ 52) : double.order (double.word s a) (double.word t b) = some (compare (key s a) (key t b)) := by
  unfold Format.order
  by_cases ha' : a = 2047 * 2 ^ 52
  · subst ha'
    rw [read_inf]
    by_cases hb' : b = 2047 * 2 ^ 52
    · subst hb'
      rw [read_inf]
      cases s <;> cases t <;> rfl
    · obtain ⟨n, l, e2, v2, -⟩ := read_word t b (by omega)
      rw [e2]
      simp only [Datum.order]
      congr 1
      cases s <;> cases t <;> simp only [key, if_true, Bool.false_eq_true, if_false, compare, compareOfLessAndEq] <;> (first | (rw [if_pos (by omega)]; done) | (rw [if_neg (by omega), if_neg (by omega)]))
  · obtain ⟨m, k, e1, v1, -⟩ := read_word s a (by omega)
    rw [e1]
    by_cases hb' : b = 2047 * 2 ^ 52
    · subst hb'
      rw [read_inf]
      simp only [Datum.order]
      congr 1
      cases s <;> cases t <;> simp only [key, if_true, Bool.false_eq_true, if_false, compare, compareOfLessAndEq] <;> (first | (rw [if_pos (by omega)]; done) | (rw [if_neg (by omega), if_neg (by omega)]))
    · obtain ⟨n, l, e2, v2, -⟩ := read_word t b (by omega)
      rw [e2]
      simp only [Datum.order, min_place]
      congr 1
      have h1 := signed_mul s m k (min k l) (Nat.min_le_left _ _)
      have h2 := signed_mul t n l (min k l) (Nat.min_le_right _ _)
      rw [v1] at h1
      rw [v2] at h2
      generalize signed s m (((k : Int) - 1074) - (((min k l : Nat) : Int) - 1074)).toNat = X at *
      generalize signed t n (((l : Int) - 1074) - (((min k l : Nat) : Int) - 1074)).toNat = Y at *
      have hp : (0 : Int) < ((2 ^ min k l : Nat) : Int) := Int.natCast_pos.2 (Nat.two_pow_pos _)
      generalize ((2 ^ min k l : Nat) : Int) = P at *
      have h1' : X * P = sv s a := h1
      have h2' : Y * P = sv t b := h2
      refine cmp_eq _ _ _ _ ?_ ?_
      · rw [← sv_lt, ← h1', ← h2']
        exact ⟨fun h => Int.mul_lt_mul_of_pos_right h hp, fun h => Int.lt_of_mul_lt_mul_right h (by omega)⟩
      · rw [← sv_lt, ← h1', ← h2']
        exact ⟨fun h => Int.mul_lt_mul_of_pos_right h hp, fun h => Int.lt_of_mul_lt_mul_right h (by omega)⟩

theorem order_nan_l (s : Bool) (r y : Nat) (h : 2047 * 2 ^ 52 < r) (h' : r < 2 ^ 63) : double.order (double.word s r) y = none := by
  unfold Format.order
  rw [read_nan s r h h']
  rfl
theorem order_nan_r (s : Bool) (r y : Nat) (h : 2047 * 2 ^ 52 < r) (h' : r < 2 ^ 63) : double.order y (double.word s r) = none := by
  unfold Format.order
  rw [read_nan s r h h']
  cases double.read y <;> rfl
end Go.Proofs.YtoppccfgcccijaaDoor
/- Floats of 64 bits, by their bits: which are NaN, how two stand to each other, their ranks. No statement of its own; no conditions. -/

namespace Go.Proofs.YtoppccfgcccijaaDoor
open Ieee

/-- Whether bits are a NaN's. -/
def isN (x : Nat) : Bool := decide (9218868437227405312 < x % 9223372036854775808)
/-- Where a float that is no NaN stands among all. -/
def kx (x : Nat) : Int := if x < 9223372036854775808 then (x : Int) else 9223372036854775808 - x
/-- Its bits, all NaNs being one. -/
def fbits (x : Nat) : Nat := if isN x then 9221120237041090560 else x
/-- Its rank. -/
def frank (x : Nat) : Nat := if isN x then 18446744073709551615 else if x % 9223372036854775808 = 0 then 9223372036854775808 else if x < 9223372036854775808 then x + 9223372036854775808 else 18446744073709551615 - x

theorem isN_iff (x : Nat) : isN x = true ↔ 9218868437227405312 < x % 9223372036854775808 := by simp [isN]
theorem isN_not (x : Nat) : isN x = false ↔ x % 9223372036854775808 ≤ 9218868437227405312 := by simp [isN]

theorem word_pos (r : Nat) : double.word false r = r := rfl
theorem word_neg (r : Nat) : double.word true r = 9223372036854775808 + r := by unfold Format.word; rw [sw, if_pos rfl]

/-- A float by its sign and place. -/
theorem split_x (x : Nat) (h : x < 18446744073709551616) : ∃ s r, r < 9223372036854775808 ∧ x = double.word s r ∧ x % 9223372036854775808 = r ∧ kx x = key s r := by
  by_cases hx : x < 9223372036854775808
  · exact ⟨false, x, hx, rfl, by omega, by rw [kx, if_pos hx]; rfl⟩
  · refine ⟨true, x - 9223372036854775808, by omega, by rw [word_neg]; omega, by omega, ?_⟩
    rw [kx, if_neg hx, key, if_pos rfl]
    omega

theorem order_x (x y : Nat) (hx : x < 18446744073709551616) (hy : y < 18446744073709551616) (nx : isN x = false) (ny : isN y = false) : FloatKind.f64.format.order x y = some (compare (kx x) (kx y)) := by
  rw [isN_not] at nx ny
  obtain ⟨s, a, -, rfl, ea, ka⟩ := split_x x hx
  obtain ⟨t, b, -, rfl, eb, kb⟩ := split_x y hy
  rw [ka, kb]
  exact order_key s t a b (by omega) (by omega)
theorem order_l (x y : Nat) (hx : x < 18446744073709551616) (nx : isN x = true) : FloatKind.f64.format.order x y = none := by
  rw [isN_iff] at nx
  obtain ⟨s, a, h, rfl, ea, -⟩ := split_x x hx
  exact order_nan_l s a y (by omega) (by omega)
theorem order_r (x y : Nat) (hy : y < 18446744073709551616) (ny : isN y = true) : FloatKind.f64.format.order x y = none := by
  rw [isN_iff] at ny
  obtain ⟨s, a, h, rfl, ea, -⟩ := split_x y hy
  exact order_nan_r s a x (by omega) (by omega)

theorem order_lt (x y : Nat) (hx : x < 18446744073709551616) (hy : y < 18446744073709551616) (nx : isN x = false) (ny : isN y = false) (h : kx x < kx y) : FloatKind.f64.format.order x y = some .lt := by
  rw [order_x x y hx hy nx ny]
  congr 1
  simp only [compare, compareOfLessAndEq]
  rw [if_pos h]
theorem order_eq (x y : Nat) (hx : x < 18446744073709551616) (hy : y < 18446744073709551616) (nx : isN x = false) (ny : isN y = false) (h : kx x = kx y) : FloatKind.f64.format.order x y = some .eq := by
  rw [order_x x y hx hy nx ny]
  congr 1
  simp only [compare, compareOfLessAndEq]
  rw [if_neg (by omega), if_pos h]
theorem order_gt (x y : Nat) (hx : x < 18446744073709551616) (hy : y < 18446744073709551616) (nx : isN x = false) (ny : isN y = false) (h : kx y < kx x) : FloatKind.f64.format.order x y = some .gt := by
  rw [order_x x y hx hy nx ny]
  congr 1
  simp only [compare, compareOfLessAndEq]
  rw [if_neg (by omega), if_neg (by omega)]

theorem fbits_lt (x : Nat) (h : x < 18446744073709551616) : fbits x < 18446744073709551616 := by
  unfold fbits; split <;> omega
theorem frank_lt (x : Nat) (h : x < 18446744073709551616) : frank x < 18446744073709551616 := by
  unfold frank
  split
  · omega
  · split
    · omega
    · split <;> omega
end Go.Proofs.YtoppccfgcccijaaDoor
/- What halves, doubles, sums and cuts of floats give, in the steps that the specification takes. No statement of its own; no conditions. -/

namespace Go.Proofs.YtoppccfgcccijaaDoor
open Ieee

/-- The float c times 2^j least floats. -/
def F (c j : Nat) : Nat := rg (c * 2 ^ j)

theorem F_wval (c j : Nat) (hc : c < 2 ^ 53) (hj : j ≤ 2045) : wval (F c j) = c * 2 ^ j := (rep_of c j hc hj).2.1
theorem F_lt (c j : Nat) (hc : c < 2 ^ 53) (hj : j ≤ 2045) : F c j < 2047 * 2 ^ 52 := (rep_of c j hc hj).1
theorem F_of (r c j : Nat) (h : r < 2047 * 2 ^ 52) (e : wval r = c * 2 ^ j) : r = F c j := by rw [F, ← e, rg_wval r h]

theorem wval_norm (t f : Nat) (hf : f < 2 ^ 52) : wval ((t + 1) * 2 ^ 52 + f) = (2 ^ 52 + f) * 2 ^ t := by
  unfold wval
  have h1 : ¬ ((t + 1) * 2 ^ 52 + f < 2 ^ 52) := by omega
  have h2 : ((t + 1) * 2 ^ 52 + f) / 2 ^ 52 = t + 1 := by omega
  have h3 : ((t + 1) * 2 ^ 52 + f) % 2 ^ 52 = f := by omega
  rw [if_neg h1, h2, h3, Nat.add_sub_cancel]
theorem F_norm (t f : Nat) (hf : f < 2 ^ 52) (ht : t ≤ 2045) : F (2 ^ 52 + f) t = (t + 1) * 2 ^ 52 + f := (F_of _ _ _ (by omega) (wval_norm t f hf)).symm
theorem F_sub (f : Nat) (hf : f < 2 ^ 52) : F f 0 = f := (F_of f f 0 (by omega) (by rw [wval, if_pos hf, Nat.pow_zero, Nat.mul_one])).symm

theorem two_read : double.read 4611686018427387904 = .number false (2 ^ 52) (((1 : Nat) : Int) - 52) := by decide
theorem p52_read : double.read 4841369599423283200 = .number false (2 ^ 52) (((52 : Nat) : Int) - 52) := by decide
theorem two_F : 4611686018427387904 = F (2 ^ 52) 1023 := (F_norm 1023 0 (by omega) (by omega)).symm
theorem one_F : 4607182418800017408 = F (2 ^ 52) 1022 := (F_norm 1022 0 (by omega) (by omega)).symm
theorem p52_F : 4841369599423283200 = F (2 ^ 52) 1074 := (F_norm 1074 0 (by omega) (by omega)).symm

theorem half_F (c j : Nat) (hc : c < 2 ^ 53) (hj : j + 1 ≤ 2045) : double.div (F c (j + 1)) 4611686018427387904 = some (F c j) := by
  refine half_exact false 4611686018427387904 (F c (j + 1)) (F c j) 1 two_read (F_lt _ _ hc hj) (F_lt _ _ hc (by omega)) ?_
  rw [F_wval _ _ hc hj, F_wval _ _ hc (by omega), Nat.pow_succ, Nat.pow_one, Nat.mul_assoc]
theorem cut_F (c j : Nat) (hc : c < 2 ^ 53) (hj : j + 52 ≤ 2045) : double.div (F c (j + 52)) 4841369599423283200 = some (F c j) := by
  refine half_exact false 4841369599423283200 (F c (j + 52)) (F c j) 52 p52_read (F_lt _ _ hc hj) (F_lt _ _ hc (by omega)) ?_
  rw [F_wval _ _ hc hj, F_wval _ _ hc (by omega), Nat.pow_add, Nat.mul_assoc]
theorem pw (c j a b k d : Nat) (h : j + a + b = k + d) : c * 2 ^ j * (2 ^ a * 2 ^ b) = c * 2 ^ k * 2 ^ d := by
  rw [← Nat.pow_add, Nat.mul_assoc, Nat.mul_assoc, ← Nat.pow_add, ← Nat.pow_add, ← Nat.add_assoc, h]
theorem both (f a p : Nat) : f * p + a * p = (a + f) * p := by rw [Nat.add_mul, Nat.add_comm]
theorem decode_eq (b : Nat) : FloatKind.f64.decode b = double.read b := rfl
theorem double_F (c j : Nat) (hc : c < 2 ^ 53) (hj : j + 1 ≤ 2045) : double.mul (F c j) 4611686018427387904 = some (F c (j + 1)) := by
  have := mul_exact false false (F c j) (F (2 ^ 52) 1023) (F c (j + 1)) (F_lt _ _ hc (by omega)) (F_lt _ _ (by omega) (by omega)) (F_lt _ _ hc hj) (by
    rw [F_wval _ _ hc hj, F_wval _ _ hc (by omega), F_wval _ _ (by omega) (by omega)]
    exact pw c j 52 1023 (j + 1) 1074 (by omega))
  rw [← two_F] at this
  exact this
theorem lift_F (c j : Nat) (hc : c < 2 ^ 53) (hj : j + 52 ≤ 2045) : double.mul (F c j) 4841369599423283200 = some (F c (j + 52)) := by
  have := mul_exact false false (F c j) (F (2 ^ 52) 1074) (F c (j + 52)) (F_lt _ _ hc (by omega)) (F_lt _ _ (by omega) (by omega)) (F_lt _ _ hc hj) (by
    rw [F_wval _ _ hc hj, F_wval _ _ hc (by omega), F_wval _ _ (by omega) (by omega)]
    exact pw c j 52 1074 (j + 52) 1074 (by omega))
  rw [← p52_F] at this
  exact this
theorem less_F (f : Nat) (hf : f < 2 ^ 52) : double.sub (F (2 ^ 52 + f) 1022) 4607182418800017408 = some (F f 1022) := by
  rw [one_F]
  refine sub_exact _ _ _ (F_lt _ _ (by omega) (by omega)) (F_lt _ _ (by omega) (by omega)) (F_lt _ _ (by omega) (by omega)) ?_
  rw [F_wval _ _ (by omega) (by omega), F_wval _ _ (by omega) (by omega), F_wval _ _ (by omega) (by omega), Nat.add_mul]
theorem more_F (f : Nat) (hf : f < 2 ^ 52) : double.add (F f 1022) 4607182418800017408 = some (F (2 ^ 52 + f) 1022) := by
  rw [one_F]
  refine add_exact _ _ _ (F_lt _ _ (by omega) (by omega)) (F_lt _ _ (by omega) (by omega)) (F_lt _ _ (by omega) (by omega)) ?_
  rw [F_wval _ _ (by omega) (by omega), F_wval _ _ (by omega) (by omega), F_wval _ _ (by omega) (by omega)]
  generalize (2 : Nat) ^ 1022 = P
  exact both f _ P
theorem int_of (x n : Nat) (h : (double.read x).toInt .zero = some (n : Int)) (hn : n < 18446744073709551616) : floatToIntVal .f64 x .u64 = some (n : Int) := by
  rw [← decode_eq] at h
  unfold floatToIntVal
  rw [h]
  have e1 : IntKind.u64.min = 0 := by decide
  have e2 : IntKind.u64.max = 18446744073709551615 := by decide
  simp only [e1, e2]
  rw [if_pos (by omega)]
theorem int_F (f : Nat) (hf : f < 2 ^ 52) : floatToIntVal .f64 (F f 1074) .u64 = some (f : Int) :=
  int_of _ _ (toInt_exact (F f 1074) (F_lt _ _ (by omega) (by omega)) f (F_wval _ _ (by omega) (by omega))) (by omega)
theorem of_F (f : Nat) (hf : f < 2 ^ 53) : floatOfInt .f64 (f : Int) = F f 1074 := by
  unfold floatOfInt FloatKind.nearest FloatKind.encode
  have hn : decide ((f : Int) < 0) = false := decide_eq_false (by omega)
  rw [hn, Int.natAbs_natCast]
  exact write_by false f 0 (F f 1074) 1074 0 (F_lt _ _ hf (by omega)) (by omega) (by rw [F_wval _ _ hf (by omega), Nat.pow_zero, Nat.mul_one])
end Go.Proofs.YtoppccfgcccijaaDoor
/- The contracts of the program's FloatBits, FloatOf, FloatRank, FloatUnrank and FloatCompare. For every argument. -/







namespace Go.Proofs.YtoppccfgcccijaaDoor
open Go.RowKit

theorem isNaN_walk (x : Nat) (hx : x < 18446744073709551616) (w : World) :
    Calls Tryd.prog 66 #[.float .f64 x] w fun e w' => e = .returned (.bool (isN x)) ∧ w' = w := by
  by_cases hn : isN x = true
  · have o := order_l x x hx hn
    go_enter Tryd.func66, Tryd.ntmps66
    go_wp2
    go_ret
    exact ⟨by rw [hn]; rfl, rfl⟩
  · have hn' : isN x = false := by simpa using hn
    have o := order_eq x x hx hx hn' hn' rfl
    go_enter Tryd.func66, Tryd.ntmps66
    go_wp2
    go_ret
    exact ⟨by rw [hn']; rfl, rfl⟩

theorem frombits_run (n : Int) (w : World) : (callFunc 81 #[.int .u64 n]).run Tryd.prog w = .ok (.value (.float .f64 n.toNat)) w := by
  rw [run_callFunc_extern (P := Tryd.prog) Tryd.func81 (by kernel_rfl) (by kernel_rfl) (by kernel_rfl) (e := Extern.MathFloatBits.float64frombits) (by kernel_rfl)]
  rfl
theorem bits_run (x : Nat) (w : World) : (callFunc 67 #[.float .f64 x]).run Tryd.prog w = .ok (.value (.int .u64 x)) w := by
  rw [run_callFunc_extern (P := Tryd.prog) Tryd.func67 (by kernel_rfl) (by kernel_rfl) (by kernel_rfl) (e := Extern.MathFloatBits.float64bits) (by kernel_rfl)]
  rfl

theorem impl_FloatBits (x : Nat) (hx : x < 18446744073709551616) (w : World) :
    Calls Tryd.prog 52 #[.float .f64 x] w fun e w' => e = .returned (.int .u64 (fbits x)) ∧ w' = w := by
  have hb := bits_run x
  by_cases hn : isN x = true
  · have ef : fbits x = 9221120237041090560 := by rw [fbits, if_pos hn]
    go_enter Tryd.func52, Tryd.ntmps52
    go_wp2_with fail
    refine (isNaN_walk x hx w).mono ?_
    rintro e w1 ⟨rfl, rfl⟩
    go_wp2_with fail
    go_ret
    exact ⟨by rw [ef]; rfl, rfl⟩
  · have hn' : isN x = false := by simpa using hn
    have ef : fbits x = x := by rw [fbits, if_neg hn]
    go_enter Tryd.func52, Tryd.ntmps52
    go_wp2_with fail
    refine (isNaN_walk x hx w).mono ?_
    rintro e w1 ⟨rfl, rfl⟩
    go_wp2_with fail
    go_ret
    exact ⟨by rw [ef]; rfl, rfl⟩

theorem impl_FloatOf (x : Nat) (w : World) :
    Calls Tryd.prog 71 #[.int .u64 x] w fun e w' => e = .returned (.float .f64 x) ∧ w' = w := by
  have hb := frombits_run (x : Int)
  go_enter Tryd.func71, Tryd.ntmps71
  go_wp2_with fail
  go_ret
  exact ⟨rfl, rfl⟩

theorem not64 (x : Nat) (h : x < 18446744073709551616) : bits .xor .u64 IntKind.u64.max (x : Int) = ((18446744073709551615 - x : Nat) : Int) := by
  have e : IntKind.u64.max = ((18446744073709551615 : Nat) : Int) := by decide
  rw [e, u64_xor_nat _ _ (by omega) h]
  congr 1
  have h1 : (BitVec.allOnes 64 ^^^ BitVec.ofNat 64 x).toNat = 18446744073709551615 ^^^ x := by
    rw [BitVec.toNat_xor, BitVec.toNat_allOnes, BitVec.toNat_ofNat, Nat.mod_eq_of_lt h]
  rw [← h1, BitVec.allOnes_xor, BitVec.toNat_not, BitVec.toNat_ofNat, Nat.mod_eq_of_lt h]

theorem kx_zero : kx 0 = 0 := rfl
theorem isN_zero : isN 0 = false := by decide

/-- The bits that FloatUnrank turns to. -/
def back (k : Nat) : Nat := if 9223372036854775808 ≤ k then k - 9223372036854775808 else 18446744073709551615 - k
theorem back_lt (k : Nat) (h : k < 18446744073709551616) : back k < 18446744073709551616 := by unfold back; split <;> omega

def cmp3 (x y : Nat) : Int := if x < y then -1 else if y < x then 1 else 0

end Go.Proofs.YtoppccfgcccijaaDoor
/- The contract of the specification's FloatBits: it answers 'fbits', and leaves memory as it was. For every argument. -/


namespace Go.Proofs.YtoppccfgcccijaaDoor
open Go.RowKit Ieee

theorem kpos (a : Nat) (h : a ≤ 9218868437227405312) : a < 18446744073709551616 ∧ isN a = false ∧ kx a = a := by
  refine ⟨by omega, (isN_not a).2 (by omega), ?_⟩
  rw [kx, if_pos (by omega)]
theorem olt (a b : Nat) (ha : a ≤ 9218868437227405312) (hb : b ≤ 9218868437227405312) (h : a < b) : FloatKind.f64.format.order a b = some .lt :=
  order_lt a b (kpos a ha).1 (kpos b hb).1 (kpos a ha).2.1 (kpos b hb).2.1 (by rw [(kpos a ha).2.2, (kpos b hb).2.2]; omega)
theorem ogt (a b : Nat) (ha : a ≤ 9218868437227405312) (hb : b ≤ 9218868437227405312) (h : b < a) : FloatKind.f64.format.order a b = some .gt :=
  order_gt a b (kpos a ha).1 (kpos b hb).1 (kpos a ha).2.1 (kpos b hb).2.1 (by rw [(kpos a ha).2.2, (kpos b hb).2.2]; omega)
theorem oeq (a : Nat) (ha : a ≤ 9218868437227405312) : FloatKind.f64.format.order a a = some .eq :=
  order_eq a a (kpos a ha).1 (kpos a ha).1 (kpos a ha).2.1 (kpos a ha).2.1 rfl

theorem dval (r : Nat) (h : r < 9218868437227405312) (h1 : 4503599627370496 ≤ r) : ∃ t f, f < 2 ^ 52 ∧ t ≤ 2045 ∧ r = (t + 1) * 2 ^ 52 + f ∧ r = F (2 ^ 52 + f) t := by
  refine ⟨r / 4503599627370496 - 1, r % 4503599627370496, by omega, by omega, by omega, ?_⟩
  rw [F_norm _ _ (by omega) (by omega)]
  omega

theorem half_r (r : Nat) (h1 : 4611686018427387904 ≤ r) (h2 : r < 9218868437227405312) : floatBits .quo .f64 r 4611686018427387904 = some (r - 4503599627370496) := by
  obtain ⟨t, f, hf, ht, e1, e2⟩ := dval r h2 (by omega)
  obtain ⟨u, rfl⟩ : ∃ u, t = u + 1 := ⟨t - 1, by omega⟩
  have := half_F (2 ^ 52 + f) u (by omega) (by omega)
  rw [← e2, F_norm u f hf (by omega)] at this
  rw [show r - 4503599627370496 = (u + 1) * 2 ^ 52 + f by omega]
  exact this

theorem F_suc (c j : Nat) (hc : c < 2 ^ 53) (hj : j + 1 ≤ 2045) : wval (F c (j + 1)) = wval (F c j) * 2 := by
  rw [F_wval _ _ hc hj, F_wval _ _ hc (by omega), Nat.pow_succ, Nat.mul_assoc]
theorem two_F' : 4611686018427387904 = F (2 ^ 52) (1022 + 1) := (F_norm (1022 + 1) 0 (by omega) (by omega)).symm
theorem wval_le (a b : Nat) (h : wval a < wval b) : a < b := by
  rcases Nat.lt_or_ge a b with h' | h'
  · exact h'
  · rcases Nat.lt_or_eq_of_le h' with h'' | h''
    · have := wval_lt b a h''; omega
    · subst h''; omega

theorem dbl_r (r : Nat) (h : r < 4607182418800017408) : ∃ q, floatBits .mul .f64 r 4611686018427387904 = some q ∧ wval q = wval r * 2 ∧ q < 4611686018427387904 := by
  have main : ∃ c j, c < 2 ^ 53 ∧ j + 1 ≤ 2045 ∧ r = F c j := by
    by_cases h1 : 4503599627370496 ≤ r
    · obtain ⟨t, f, hf, ht, e1, e2⟩ := dval r (by omega) h1
      exact ⟨2 ^ 52 + f, t, by omega, by omega, e2⟩
    · exact ⟨r, 0, by omega, by omega, (F_sub r (by omega)).symm⟩
  obtain ⟨c, j, hc, hj, e⟩ := main
  have hm := double_F c j hc hj
  rw [← e] at hm
  have hv : wval (F c (j + 1)) = wval r * 2 := by
    rw [e, F_wval _ _ hc hj, F_wval _ _ hc (by omega), Nat.pow_succ, Nat.mul_assoc]
  refine ⟨_, hm, hv, ?_⟩
  apply wval_le
  rw [hv]
  have h1 : wval r < wval 4607182418800017408 := wval_lt _ _ h
  have h2 : wval 4611686018427387904 = wval 4607182418800017408 * 2 := by
    rw [two_F', one_F]
    exact F_suc _ _ (by omega) (by omega)
  omega

/-- The end of it, above 1. -/
theorem top_r (r k j q : Nat) (hq1 : 4607182418800017408 ≤ q) (hq2 : q < 4611686018427387904) (hj : j ≤ 1022)
    (h : (k = 0 ∧ wval q = wval r * 2 ^ j) ∨ (j = 0 ∧ r = q + k * 4503599627370496)) :
    ∃ f : Nat, f < 4503599627370496 ∧ r = (k + 1023 - j) * 4503599627370496 + f ∧ floatBits .sub .f64 q 4607182418800017408 = some (F f 1022) ∧ floatBits .mul .f64 (F f 1022) 4841369599423283200 = some (F f 1074) ∧ floatToIntVal .f64 (F f 1074) .u64 = some (f : Int) := by
  refine ⟨q - 4607182418800017408, by omega, ?_, ?_, lift_F _ 1022 (by omega) (by omega), int_F _ (by omega)⟩
  · rcases h with ⟨rfl, h⟩ | ⟨rfl, h⟩
    · obtain ⟨t, ht⟩ : ∃ t, 1023 - j = t + 1 := ⟨1022 - j, by omega⟩
      have e1 : wval q = (2 ^ 52 + (q - 4607182418800017408)) * 2 ^ 1022 := by
        have e0 := wval_norm 1022 (q - 4607182418800017408) (by omega)
        rwa [show (1022 + 1) * 2 ^ 52 + (q - 4607182418800017408) = q by omega] at e0
      have e2 := wval_norm t (q - 4607182418800017408) (by omega)
      have e3 : (2 : Nat) ^ 1022 = 2 ^ t * 2 ^ j := by rw [show (1022 : Nat) = t + j by omega, Nat.pow_add]
      rw [e1, e3, ← Nat.mul_assoc, ← e2] at h
      have := wval_inj _ _ (Nat.eq_of_mul_eq_mul_right (Nat.two_pow_pos j) h)
      rw [← this]
      omega
    · omega
  · have hs := less_F (q - 4607182418800017408) (by omega)
    rw [F_norm _ _ (by omega) (by omega)] at hs
    rw [show (1022 + 1) * 2 ^ 52 + (q - 4607182418800017408) = q by omega] at hs
    exact hs

/-- The end of it, below 1. -/
theorem low_r (r q : Nat) (hq : q < 4607182418800017408) (h : wval q = wval r * 2 ^ 1022) :
    r < 4503599627370496 ∧ floatBits .mul .f64 q 4841369599423283200 = some (F r 1074) ∧ floatToIntVal .f64 (F r 1074) .u64 = some (r : Int) := by
  have h1 : wval q < wval 4607182418800017408 := wval_lt _ _ hq
  have h2 : wval 4607182418800017408 = wval 4503599627370496 * 2 ^ 1022 := by
    rw [one_F, F_wval _ _ (by omega) (by omega), show wval 4503599627370496 = 2 ^ 52 by decide]
  have hlt : r < 4503599627370496 := by
    apply wval_le
    rw [h, h2] at h1
    exact Nat.lt_of_mul_lt_mul_right h1
  have hv : wval r = r := by rw [wval, if_pos hlt]
  rw [hv] at h
  have e : q = F r 1022 := F_of q r 1022 (by omega) h
  refine ⟨hlt, ?_, int_F r hlt⟩
  rw [e]
  exact lift_F r 1022 (by omega) (by omega)
end Go.Proofs.YtoppccfgcccijaaDoor
/- The contract of the specification's FloatBits: it answers 'fbits', and leaves memory as it was. For every argument. -/

namespace Go.Proofs.YtoppccfgcccijaaDoor
open Go.RowKit Ieee

/-- The bits in a float's cell. -/
def fl : Value → Nat
  | .float _ b => b
  | _ => 0

theorem or_pos (x : Nat) (h : x < 9223372036854775808) : bits .or .u64 0 (x : Int) = ((x : Nat) : Int) := by
  have := u64_or_nat 0 x (by omega) (by omega)
  rw [Nat.zero_or] at this
  exact this
theorem or_neg (x : Nat) (h : x < 9223372036854775808) : bits .or .u64 9223372036854775808 (x : Int) = ((9223372036854775808 + x : Nat) : Int) := by
  have := u64_or_nat 9223372036854775808 x (by omega) (by omega)
  rw [nat_join 63 _ _ (by decide) (by omega)] at this
  exact this
theorem or_low (s e f : Nat) (hs : s = 0 ∨ s = 9223372036854775808) (he : e < 2048) (hf : f < 4503599627370496) : bits .or .u64 ((s + e * 4503599627370496 : Nat) : Int) (f : Int) = ((s + (e * 4503599627370496 + f) : Nat) : Int) := by
  rw [u64_or_nat _ _ (by omega) (by omega), nat_join 52 _ _ (by omega) (by omega), Nat.add_assoc]

theorem top_pos (r k j f : Nat) (hj : j ≤ 1022) (hk : k ≤ 1023) (hf : f < 4503599627370496) (e : r = (k + 1023 - j) * 4503599627370496 + f) :
    bits .or .u64 (bits .or .u64 0 (((k : Int) - j + 1023) * 4503599627370496)) (f : Int) = (r : Int) := by
  rw [show ((k : Int) - j + 1023) * 4503599627370496 = (((k + 1023 - j) * 4503599627370496 : Nat) : Int) by omega, or_pos _ (by omega)]
  have := or_low 0 (k + 1023 - j) f (.inl rfl) (by omega) hf
  rw [Nat.zero_add, Nat.zero_add, ← e] at this
  exact this
theorem top_neg (r k j f : Nat) (hj : j ≤ 1022) (hk : k ≤ 1023) (hf : f < 4503599627370496) (e : r = (k + 1023 - j) * 4503599627370496 + f) :
    bits .or .u64 (bits .or .u64 9223372036854775808 (((k : Int) - j + 1023) * 4503599627370496)) (f : Int) = ((9223372036854775808 + r : Nat) : Int) := by
  rw [show ((k : Int) - j + 1023) * 4503599627370496 = (((k + 1023 - j) * 4503599627370496 : Nat) : Int) by omega, or_neg _ (by omega)]
  rw [or_low 9223372036854775808 (k + 1023 - j) f (.inr rfl) (by omega) hf, ← e]

theorem neg_bits (r : Nat) (h : r < 9223372036854775808) : Op.negFloat .f64 (9223372036854775808 + r) = r := by
  unfold Op.negFloat
  rw [show 2 ^ (FloatKind.f64.format.exponentBits + FloatKind.f64.format.fractionBits) = 2 ^ 63 from rfl]
  have e : 9223372036854775808 + r = 2 ^ 63 ||| r := (nat_join 63 _ _ (by decide) (by omega)).symm
  rw [e]
  apply Nat.eq_of_testBit_eq
  intro i
  rw [Nat.testBit_xor, Nat.testBit_or, Nat.testBit_two_pow]
  by_cases hi : 63 = i
  · subst hi
    rw [Nat.testBit_lt_two_pow h]
    rfl
  · simp [hi]

theorem neg_run (x y : Nat) (h : Op.negFloat .f64 x = y) (w : World) : (Op.unary .neg (.float .f64 x)).run Tryd.prog w = .ok (.float .f64 y) w := by
  subst h
  rfl

set_option maxRecDepth 100000 in
set_option maxHeartbeats 1600000 in
theorem spec_FloatBits_pos (r : Nat) (h0 : 0 < r) (h1 : r < 9218868437227405312) (w : World) :
    Calls Tryd.prog 30 #[.float .f64 (r)] w fun e w' => e = .returned (.int .u64 ((r : Nat) : Int)) ∧ w' = w := by
  have o1 := oeq r (by omega)
  have o3 := ogt r 0 (by omega) (by omega) h0
  have o4 : FloatKind.f64.format.order r 9218868437227405311 = some .lt ∨ FloatKind.f64.format.order r 9218868437227405311 = some .eq := by
    by_cases h : r = 9218868437227405311
    · exact .inr (by rw [h]; exact oeq _ (by omega))
    · exact .inl (olt _ _ (by omega) (by omega) (by omega))
  have H0 := hid h0
  have H1 := hid h1
  clear h0 h1
  rcases o4 with o4 | o4
  all_goals
    go_enter Tryd.func30, Tryd.ntmps30
    go_wp2
    clear o1 o3 o4
    go_loopw [4, 5] (fun a e wr => ∃ q k : Nat, a = .float .f64 q ∧ e = .int .i64 k ∧ Hid (r = q + k * 4503599627370496) ∧ Hid (k = 0 ∨ 4607182418800017408 ≤ q) ∧ Hid (k ≤ 1023) ∧ wr = w) (fun a _ _ => fl a)
    case atStart => exact ⟨r, 0, rfl, rfl, hid (by omega), hid (.inl rfl), hid (by omega), rfl⟩
    case round =>
      obtain ⟨q, k, rfl, rfl, P1, P2, P3, rfl⟩ := hrel
      have hq : q < 9218868437227405312 := by have := P1.out; have := H1.out; omega
      by_cases hge : 4611686018427387904 ≤ q
      · obtain ⟨p, hp, ep⟩ : ∃ p, floatBits .quo .f64 q 4611686018427387904 = some p ∧ Hid (q = p + 4503599627370496) := ⟨_, half_r q hge hq, hid (by omega)⟩
        have hd := fun t w => run_float_arith (P := Tryd.prog) w .quo t .f64 q 4611686018427387904 _ hp
        have oo : FloatKind.f64.format.order q 4611686018427387904 = some .gt ∨ FloatKind.f64.format.order q 4611686018427387904 = some .eq := by
          by_cases h : q = 4611686018427387904
          · exact .inr (by rw [h]; exact oeq _ (by omega))
          · exact .inl (ogt _ _ (by omega) (by omega) (by omega))
        have Q1 := hid hge
        have Q2 := hid hq
        have hk : (k : Int) ≤ 1023 := by have := P3.out; omega
        clear hge hq hp
        rcases oo with oo | oo
        all_goals
          go_wp2
          go_roundw
          case rel => exact ⟨p, k + 1, rfl, by go_num, hid (by have := P1.out; have := ep.out; omega), hid (.inr (by have := Q1.out; have := ep.out; omega)), hid (by have := P1.out; have := P3.out; have := Q1.out; have := H1.out; omega), by first | trivial | rfl⟩
          case measure => have := ep.out; simp only [fl]; omega
      · have oo := olt q 4611686018427387904 (by omega) (by omega) (by omega)
        have Q1 := hid hge
        have Q2 := hid hq
        have hk : (k : Int) ≤ 1023 := by have := P3.out; omega
        clear hge hq
        go_wp2
        clear oo
        go_loopw [4, 5] (fun a e wr' => ∃ p j : Nat, a = .float .f64 p ∧ e = .int .i64 ((k : Int) - j) ∧ Hid ((k = 0 ∧ wval p = wval q * 2 ^ j) ∨ (j = 0 ∧ p = q ∧ 4607182418800017408 ≤ q)) ∧ Hid (p < 4611686018427387904) ∧ Hid (j ≤ 1022) ∧ wr' = wr) (fun _ e _ => (intOf e + 1022).toNat)
        case atStart => exact ⟨q, 0, rfl, by go_num, hid (by
          rcases P2.out with h | h
          · exact .inl ⟨h, by rw [Nat.pow_zero, Nat.mul_one]⟩
          · exact .inr ⟨rfl, rfl, h⟩), hid (by have := Q1.out; omega), hid (by omega), rfl⟩
        case round =>
          obtain ⟨p, j, rfl, rfl, R1, R2, R3, rfl⟩ := hrel
          have hj : (j : Int) ≤ 1022 := by have := R3.out; omega
          by_cases hlt : p < 4607182418800017408
          · have R1' : Hid (k = 0 ∧ wval p = wval q * 2 ^ j) := by
              rcases R1.out with h | h
              · exact h
              · exact absurd h.2.2 (by have := h.2.1; omega)
            have ol := olt p 4607182418800017408 (by omega) (by omega) hlt
            have hk0 : (k : Int) = 0 := by have := R1'.out.1; omega
            by_cases h22 : j = 1022
            · obtain ⟨a1, a2, a3⟩ := low_r q p hlt (by have := R1'.out.2; rw [h22] at this; exact this)
              have hm := fun t w => run_float_arith (P := Tryd.prog) w .mul t .f64 p 4841369599423283200 _ a2
              have hc := fun w => run_convert_float_int (P := Tryd.prog) w 22 54 .f64 .u64 _ (q : Int) (by rw [Tryd.underlying22]; rfl) Tryd.underlying54 a3
              have hor := or_pos q (by omega)
              have ht : ¬ (-1022 : Int) < (k : Int) - j := by omega
              have A1 := hid (show r = q by have := P1.out; have := R1'.out.1; subst this; omega)
              generalize F q 1074 = y at *
              clear a1 a2 a3 hlt h22 hk0
              go_wp2
              go_ret
              exact ⟨by rw [A1.out]; rfl, rfl⟩
            · obtain ⟨p', b1, b2, b3⟩ := dbl_r p hlt
              have hm := fun t w => run_float_arith (P := Tryd.prog) w .mul t .f64 p 4611686018427387904 _ b1
              have ht : (-1022 : Int) < (k : Int) - j := by omega
              have B2 := hid b2
              have B3 := hid b3
              have H22 := hid h22
              clear b1 b2 b3 hlt h22 hk0
              go_wp2
              go_roundw
              case rel => exact ⟨p', j + 1, rfl, by go_num, hid (.inl ⟨R1'.out.1, by rw [B2.out, R1'.out.2, Nat.pow_succ, Nat.mul_assoc]⟩), B3, hid (by have := R3.out; have := H22.out; omega), by first | trivial | rfl⟩
              case measure => simp [intOf]; omega
          · obtain ⟨f, c1, c2, c3, c4, c5⟩ := top_r r k j p (by omega) R2.out R3.out (by
              rcases R1.out with h | h
              · refine .inl ⟨h.1, ?_⟩
                have := P1.out
                rw [h.1, Nat.zero_mul, Nat.add_zero] at this
                rw [this]
                exact h.2
              · exact .inr ⟨h.1, by rw [h.2.1]; exact P1.out⟩)
            have oo : FloatKind.f64.format.order p 4607182418800017408 = some .gt ∨ FloatKind.f64.format.order p 4607182418800017408 = some .eq := by
              have := R2.out
              by_cases h : p = 4607182418800017408
              · exact .inr (by rw [h]; exact oeq _ (by omega))
              · exact .inl (ogt _ _ (by omega) (by omega) (by omega))
            have hs := fun t w => run_float_arith (P := Tryd.prog) w .sub t .f64 p 4607182418800017408 _ c3
            have hm := fun t w => run_float_arith (P := Tryd.prog) w .mul t .f64 _ 4841369599423283200 _ c4
            have hc := fun w => run_convert_float_int (P := Tryd.prog) w 22 54 .f64 .u64 _ (f : Int) (by rw [Tryd.underlying22]; rfl) Tryd.underlying54 c5
            have hk0 : (0 : Int) ≤ (k : Int) := by omega
            have hj0 : (0 : Int) ≤ (j : Int) := by omega
            have C1 := hid c1
            have C2 := hid c2
            generalize F f 1022 = y at *
            generalize F f 1074 = y' at *
            clear c1 c2 c3 c4 c5 hlt
            rcases oo with oo | oo
            all_goals
              go_wp2
              go_ret
              exact ⟨by rw [← top_pos r k j f R3.out P3.out C1.out C2.out]; rfl, rfl⟩

set_option maxRecDepth 100000 in
set_option maxHeartbeats 1600000 in
theorem spec_FloatBits_neg (r : Nat) (h0 : 0 < r) (h1 : r < 9218868437227405312) (w : World) :
    Calls Tryd.prog 30 #[.float .f64 (9223372036854775808 + r)] w fun e w' => e = .returned (.int .u64 ((9223372036854775808 + r : Nat) : Int)) ∧ w' = w := by
  have o1 : FloatKind.f64.format.order (9223372036854775808 + r) (9223372036854775808 + r) = some .eq := order_eq _ _ (by omega) (by omega) ((isN_not _).2 (by omega)) ((isN_not _).2 (by omega)) rfl
  have o2 : FloatKind.f64.format.order (9223372036854775808 + r) 0 = some .lt := order_lt _ _ (by omega) (by omega) ((isN_not _).2 (by omega)) isN_zero (by rw [kx_zero, kx, if_neg (by omega)]; omega)
  have on := neg_run (9223372036854775808 + r) r (neg_bits r (by omega))
  have o3 := ogt r 0 (by omega) (by omega) h0
  have o4 : FloatKind.f64.format.order r 9218868437227405311 = some .lt ∨ FloatKind.f64.format.order r 9218868437227405311 = some .eq := by
    by_cases h : r = 9218868437227405311
    · exact .inr (by rw [h]; exact oeq _ (by omega))
    · exact .inl (olt _ _ (by omega) (by omega) (by omega))
  have H0 := hid h0
  have H1 := hid h1
  clear h0 h1
  rcases o4 with o4 | o4
  all_goals
    go_enter Tryd.func30, Tryd.ntmps30
    go_wp2
    clear o1 o2 o3 o4 on
    go_loopw [4, 5] (fun a e wr => ∃ q k : Nat, a = .float .f64 q ∧ e = .int .i64 k ∧ Hid (r = q + k * 4503599627370496) ∧ Hid (k = 0 ∨ 4607182418800017408 ≤ q) ∧ Hid (k ≤ 1023) ∧ wr = w) (fun a _ _ => fl a)
    case atStart => exact ⟨r, 0, rfl, rfl, hid (by omega), hid (.inl rfl), hid (by omega), rfl⟩
    case round =>
      obtain ⟨q, k, rfl, rfl, P1, P2, P3, rfl⟩ := hrel
      have hq : q < 9218868437227405312 := by have := P1.out; have := H1.out; omega
      by_cases hge : 4611686018427387904 ≤ q
      · obtain ⟨p, hp, ep⟩ : ∃ p, floatBits .quo .f64 q 4611686018427387904 = some p ∧ Hid (q = p + 4503599627370496) := ⟨_, half_r q hge hq, hid (by omega)⟩
        have hd := fun t w => run_float_arith (P := Tryd.prog) w .quo t .f64 q 4611686018427387904 _ hp
        have oo : FloatKind.f64.format.order q 4611686018427387904 = some .gt ∨ FloatKind.f64.format.order q 4611686018427387904 = some .eq := by
          by_cases h : q = 4611686018427387904
          · exact .inr (by rw [h]; exact oeq _ (by omega))
          · exact .inl (ogt _ _ (by omega) (by omega) (by omega))
        have Q1 := hid hge
        have Q2 := hid hq
        have hk : (k : Int) ≤ 1023 := by have := P3.out; omega
        clear hge hq hp
        rcases oo with oo | oo
        all_goals
          go_wp2
          go_roundw
          case rel => exact ⟨p, k + 1, rfl, by go_num, hid (by have := P1.out; have := ep.out; omega), hid (.inr (by have := Q1.out; have := ep.out; omega)), hid (by have := P1.out; have := P3.out; have := Q1.out; have := H1.out; omega), by first | trivial | rfl⟩
          case measure => have := ep.out; simp only [fl]; omega
      · have oo := olt q 4611686018427387904 (by omega) (by omega) (by omega)
        have Q1 := hid hge
        have Q2 := hid hq
        have hk : (k : Int) ≤ 1023 := by have := P3.out; omega
        clear hge hq
        go_wp2
        clear oo
        go_loopw [4, 5] (fun a e wr' => ∃ p j : Nat, a = .float .f64 p ∧ e = .int .i64 ((k : Int) - j) ∧ Hid ((k = 0 ∧ wval p = wval q * 2 ^ j) ∨ (j = 0 ∧ p = q ∧ 4607182418800017408 ≤ q)) ∧ Hid (p < 4611686018427387904) ∧ Hid (j ≤ 1022) ∧ wr' = wr) (fun _ e _ => (intOf e + 1022).toNat)
        case atStart => exact ⟨q, 0, rfl, by go_num, hid (by
          rcases P2.out with h | h
          · exact .inl ⟨h, by rw [Nat.pow_zero, Nat.mul_one]⟩
          · exact .inr ⟨rfl, rfl, h⟩), hid (by have := Q1.out; omega), hid (by omega), rfl⟩
        case round =>
          obtain ⟨p, j, rfl, rfl, R1, R2, R3, rfl⟩ := hrel
          have hj : (j : Int) ≤ 1022 := by have := R3.out; omega
          by_cases hlt : p < 4607182418800017408
          · have R1' : Hid (k = 0 ∧ wval p = wval q * 2 ^ j) := by
              rcases R1.out with h | h
              · exact h
              · exact absurd h.2.2 (by have := h.2.1; omega)
            have ol := olt p 4607182418800017408 (by omega) (by omega) hlt
            have hk0 : (k : Int) = 0 := by have := R1'.out.1; omega
            by_cases h22 : j = 1022
            · obtain ⟨a1, a2, a3⟩ := low_r q p hlt (by have := R1'.out.2; rw [h22] at this; exact this)
              have hm := fun t w => run_float_arith (P := Tryd.prog) w .mul t .f64 p 4841369599423283200 _ a2
              have hc := fun w => run_convert_float_int (P := Tryd.prog) w 22 54 .f64 .u64 _ (q : Int) (by rw [Tryd.underlying22]; rfl) Tryd.underlying54 a3
              have hor := or_neg q (by omega)
              have ht : ¬ (-1022 : Int) < (k : Int) - j := by omega
              have A1 := hid (show r = q by have := P1.out; have := R1'.out.1; subst this; omega)
              generalize F q 1074 = y at *
              clear a1 a2 a3 hlt h22 hk0
              go_wp2
              go_ret
              exact ⟨by rw [A1.out]; rfl, rfl⟩
            · obtain ⟨p', b1, b2, b3⟩ := dbl_r p hlt
              have hm := fun t w => run_float_arith (P := Tryd.prog) w .mul t .f64 p 4611686018427387904 _ b1
              have ht : (-1022 : Int) < (k : Int) - j := by omega
              have B2 := hid b2
              have B3 := hid b3
              have H22 := hid h22
              clear b1 b2 b3 hlt h22 hk0
              go_wp2
              go_roundw
              case rel => exact ⟨p', j + 1, rfl, by go_num, hid (.inl ⟨R1'.out.1, by rw [B2.out, R1'.out.2, Nat.pow_succ, Nat.mul_assoc]⟩), B3, hid (by have := R3.out; have := H22.out; omega), by first | trivial | rfl⟩
              case measure => simp [intOf]; omega
          · obtain ⟨f, c1, c2, c3, c4, c5⟩ := top_r r k j p (by omega) R2.out R3.out (by
              rcases R1.out with h | h
              · refine .inl ⟨h.1, ?_⟩
                have := P1.out
                rw [h.1, Nat.zero_mul, Nat.add_zero] at this
                rw [this]
                exact h.2
              · exact .inr ⟨h.1, by rw [h.2.1]; exact P1.out⟩)
            have oo : FloatKind.f64.format.order p 4607182418800017408 = some .gt ∨ FloatKind.f64.format.order p 4607182418800017408 = some .eq := by
              have := R2.out
              by_cases h : p = 4607182418800017408
              · exact .inr (by rw [h]; exact oeq _ (by omega))
              · exact .inl (ogt _ _ (by omega) (by omega) (by omega))
            have hs := fun t w => run_float_arith (P := Tryd.prog) w .sub t .f64 p 4607182418800017408 _ c3
            have hm := fun t w => run_float_arith (P := Tryd.prog) w .mul t .f64 _ 4841369599423283200 _ c4
            have hc := fun w => run_convert_float_int (P := Tryd.prog) w 22 54 .f64 .u64 _ (f : Int) (by rw [Tryd.underlying22]; rfl) Tryd.underlying54 c5
            have hk0 : (0 : Int) ≤ (k : Int) := by omega
            have hj0 : (0 : Int) ≤ (j : Int) := by omega
            have C1 := hid c1
            have C2 := hid c2
            generalize F f 1022 = y at *
            generalize F f 1074 = y' at *
            clear c1 c2 c3 c4 c5 hlt
            rcases oo with oo | oo
            all_goals
              go_wp2
              go_ret
              exact ⟨by rw [← top_neg r k j f R3.out P3.out C1.out C2.out]; rfl, rfl⟩

/-- Both noughts, both infinities, NaN. -/
theorem spec_FloatBits_rest (x : Nat) (w : World) (hx : x = 0 ∨ x = 9223372036854775808 ∨ x = 9218868437227405312 ∨ x = 18442240474082181120) :
    Calls Tryd.prog 30 #[.float .f64 x] w fun e w' => e = .returned (.int .u64 (x : Int)) ∧ w' = w := by
  have d1 := fun t w => run_float_arith (P := Tryd.prog) w .quo t .f64 4607182418800017408 0 9218868437227405312 (by decide)
  have d2 := fun t w => run_float_arith (P := Tryd.prog) w .quo t .f64 4607182418800017408 9223372036854775808 18442240474082181120 (by decide)
  have o1 : FloatKind.f64.format.order 0 0 = some .eq := by decide
  have o2 : FloatKind.f64.format.order 9223372036854775808 0 = some .eq := by decide
  have o3 : FloatKind.f64.format.order 9218868437227405312 0 = some .gt := by decide
  have o4 : FloatKind.f64.format.order 18442240474082181120 0 = some .lt := by decide
  have o5 : FloatKind.f64.format.order 9223372036854775808 9223372036854775808 = some .eq := by decide
  have o6 : FloatKind.f64.format.order 9218868437227405312 9218868437227405312 = some .eq := by decide
  have o7 : FloatKind.f64.format.order 18442240474082181120 18442240474082181120 = some .eq := by decide
  have o8 : FloatKind.f64.format.order 9218868437227405312 9218868437227405311 = some .gt := by decide
  have n1 := neg_run 9223372036854775808 0 (by decide)
  have n2 := neg_run 18442240474082181120 9218868437227405312 (by decide)
  have b1 : bits .or .u64 0 9218868437227405312 = 9218868437227405312 := or_pos 9218868437227405312 (by omega)
  have b2 : bits .or .u64 9223372036854775808 9218868437227405312 = 18442240474082181120 := or_neg 9218868437227405312 (by omega)
  rcases hx with rfl | rfl | rfl | rfl
  all_goals
    go_enter Tryd.func30, Tryd.ntmps30
    go_wp2
    go_ret
    exact ⟨rfl, rfl⟩

theorem spec_FloatBits_nan (x : Nat) (hx : x < 18446744073709551616) (hn : isN x = true) (w : World) :
    Calls Tryd.prog 30 #[.float .f64 x] w fun e w' => e = .returned (.int .u64 9221120237041090560) ∧ w' = w := by
  have o := order_l x x hx hn
  clear hx hn
  go_enter Tryd.func30, Tryd.ntmps30
  go_wp2
  go_ret
  exact ⟨rfl, rfl⟩

theorem spec_FloatBits (x : Nat) (hx : x < 18446744073709551616) (w : World) :
    Calls Tryd.prog 30 #[.float .f64 x] w fun e w' => e = .returned (.int .u64 (fbits x : Int)) ∧ w' = w := by
  by_cases hn : isN x = true
  · rw [fbits, if_pos hn]
    exact spec_FloatBits_nan x hx hn w
  · have hn' : isN x = false := by simpa using hn
    rw [isN_not] at hn'
    rw [fbits, if_neg hn]
    by_cases h4 : x = 0 ∨ x = 9223372036854775808 ∨ x = 9218868437227405312 ∨ x = 18442240474082181120
    · exact spec_FloatBits_rest x w h4
    · by_cases hp : x < 9223372036854775808
      · exact spec_FloatBits_pos x (by omega) (by omega) w
      · obtain ⟨r, rfl⟩ : ∃ r, x = 9223372036854775808 + r := ⟨x - 9223372036854775808, by omega⟩
        exact spec_FloatBits_neg r (by omega) (by omega) w
end Go.Proofs.YtoppccfgcccijaaDoor
/- The contract of the specification's FloatOf: the float with the bits, or some NaN where they are a NaN's; memory stays as it was. For every argument. -/


namespace Go.Proofs.YtoppccfgcccijaaDoor
open Go.RowKit Ieee

theorem neg_bits' (r : Nat) (h : r < 9223372036854775808) : Op.negFloat .f64 r = 9223372036854775808 + r := by
  unfold Op.negFloat
  rw [show 2 ^ (FloatKind.f64.format.exponentBits + FloatKind.f64.format.fractionBits) = 2 ^ 63 from rfl]
  have e : 9223372036854775808 + r = 2 ^ 63 ||| r := (nat_join 63 _ _ (by decide) (by omega)).symm
  rw [e]
  apply Nat.eq_of_testBit_eq
  intro i
  rw [Nat.testBit_xor, Nat.testBit_or, Nat.testBit_two_pow]
  by_cases hi : 63 = i
  · subst hi
    rw [Nat.testBit_lt_two_pow h]
    rfl
  · simp [hi]

/-- A NaN that an operation hands back. -/
theorem nan_run (op : BinOp) (t : TypeId) (x y : Nat) (ho : op = .add ∨ op = .sub ∨ op = .mul ∨ op = .quo) (h : floatBits op .f64 x y = none) (w : World) : ∃ n, (binOp op t (.float .f64 x) (.float .f64 y)).run Tryd.prog w = .ok (.float .f64 n) w.drew ∧ isN n = true ∧ n < 18446744073709551616 := by
  refine ⟨Question.cut (.nanBits .f64 x y) (w.tape w.drawn (.nanBits .f64 x y)), ?_, ?_, ?_⟩
  · unfold floatBits at h
    rcases ho with rfl | rfl | rfl | rfl <;> simp only at h <;> simp [binOp, Op.floatArith, h, choose, Sem.run, Question.forced]
  · rw [isN_iff]
    simp only [Question.cut]
    have hu := Nat.mod_lt (w.tape w.drawn (.nanBits .f64 x y) / 2) (show 0 < 2 ^ 52 - 1 by decide)
    generalize w.tape w.drawn (.nanBits .f64 x y) / 2 % (2 ^ 52 - 1) = u at *
    rcases Nat.mod_two_eq_zero_or_one (w.tape w.drawn (.nanBits .f64 x y)) with h | h <;> rw [h] <;> omega
  · simp only [Question.cut]
    have hu := Nat.mod_lt (w.tape w.drawn (.nanBits .f64 x y) / 2) (show 0 < 2 ^ 52 - 1 by decide)
    generalize w.tape w.drawn (.nanBits .f64 x y) / 2 % (2 ^ 52 - 1) = u at *
    rcases Nat.mod_two_eq_zero_or_one (w.tape w.drawn (.nanBits .f64 x y)) with h | h <;> rw [h] <;> omega
end Go.Proofs.YtoppccfgcccijaaDoor
/- The contract of the specification's FloatOf: the float with the bits, or some NaN where they are a NaN's; memory stays as it was. For every argument. -/

namespace Go.Proofs.YtoppccfgcccijaaDoor
open Go.RowKit Ieee

/-- The fields of 64 bits. -/
structure Fields (b e f : Nat) (s : Bool) : Prop where
  he : e < 2048
  hf : f < 4503599627370496
  hb : b = (if s then 9223372036854775808 else 0) + (e * 4503599627370496 + f)
  a1 : bits .and .u64 ((b : Int) / 4503599627370496) 2047 = (e : Int)
  a2 : bits .and .u64 (b : Int) 4503599627370495 = (f : Int)
  a3 : ((b : Int) / 9223372036854775808 == 1) = s

theorem fields (b : Nat) (h : b < 18446744073709551616) : ∃ e f s, Fields b e f s := by
  refine ⟨b / 4503599627370496 % 2048, b % 4503599627370496, decide (9223372036854775808 ≤ b), by omega, by omega, ?_, ?_, ?_, ?_⟩
  · by_cases hs : 9223372036854775808 ≤ b
    · rw [decide_eq_true hs, if_pos rfl]; omega
    · rw [decide_eq_false hs, if_neg (by simp)]; omega
  · have := u64_and_nat (b / 4503599627370496) 2047 (by omega) (by omega)
    rw [show (2047 : Nat) = 2 ^ 11 - 1 from rfl, Nat.and_two_pow_sub_one_eq_mod] at this
    exact this
  · have := u64_and_nat b 4503599627370495 (by omega) (by omega)
    rw [show (4503599627370495 : Nat) = 2 ^ 52 - 1 from rfl, Nat.and_two_pow_sub_one_eq_mod] at this
    exact this
  · by_cases hs : 9223372036854775808 ≤ b
    · rw [decide_eq_true hs]
      exact beq_iff_eq.2 (by omega)
    · rw [decide_eq_false hs]
      exact beq_eq_false_iff_ne.2 (by omega)

theorem ofint_run (f : Nat) (hf : f < 4503599627370496) (w : World) : (convert 54 22 (.int .u64 (f : Int))).run Tryd.prog w = .ok (.float .f64 (F f 1074)) w := by
  rw [run_convert_int_float w 54 22 .u64 .f64 (f : Int) (by rw [Tryd.underlying54]; rfl) Tryd.underlying22, of_F f (by omega)]

set_option maxHeartbeats 1600000 in
theorem spec_FloatOf_nan (b f : Nat) (s : Bool) (H : Fields b 2047 f s) (h0 : f ≠ 0) (w : World) :
    Calls Tryd.prog 36 #[.int .u64 b] w fun e w' => ∃ y : Nat, e = .returned (.float .f64 y) ∧ isN y = true ∧ y < 18446744073709551616 ∧ Still w w' := by
  have a1 := H.a1
  have a2 := H.a2
  have hof := ofint_run f H.hf
  have hd := fun t w => run_float_arith (P := Tryd.prog) w .quo t .f64 _ 4841369599423283200 _ (cut_F f 1022 (by have := H.hf; omega) (by omega))
  obtain ⟨n, hn, n1, n2⟩ := nan_run .quo 22 0 0 (by simp) (by decide) w
  have hne : ((f : Int) != 0) = true := by simp [h0]
  generalize F f 1074 = y1 at *
  generalize F f 1022 = y2 at *
  clear H h0
  go_enter Tryd.func36, Tryd.ntmps36
  go_wp2
  go_ret
  exact ⟨n, rfl, n1, n2, Still.drew w⟩

set_option maxHeartbeats 1600000 in
theorem spec_FloatOf_inf (b : Nat) (s : Bool) (H : Fields b 2047 0 s) (w : World) :
    Calls Tryd.prog 36 #[.int .u64 b] w fun e w' => e = .returned (.float .f64 b) ∧ w' = w := by
  have a1 : bits .and .u64 ((b : Int) / 4503599627370496) 2047 = 2047 := H.a1
  have a2 : bits .and .u64 (b : Int) 4503599627370495 = 0 := H.a2
  have a3 := H.a3
  have hb := hid H.hb
  have hof : ∀ w, (convert 54 22 (.int .u64 0)).run Tryd.prog w = .ok (.float .f64 (F 0 1074)) w := ofint_run 0 (by omega)
  have hd := fun t w => run_float_arith (P := Tryd.prog) w .quo t .f64 _ 4841369599423283200 _ (cut_F 0 1022 (by omega) (by omega))
  have d1 := fun t w => run_float_arith (P := Tryd.prog) w .quo t .f64 4607182418800017408 0 9218868437227405312 (by decide)
  have n2 := neg_run 9218868437227405312 18442240474082181120 (by decide)
  generalize F 0 1074 = y1 at *
  generalize F 0 1022 = y2 at *
  clear H
  cases s
  · have hb' := hid (show b = 9218868437227405312 by have := hb.out; rw [if_neg (by simp)] at this; omega)
    clear hb
    go_enter Tryd.func36, Tryd.ntmps36
    go_wp2
    go_ret
    exact ⟨by rw [hb'.out]; rfl, rfl⟩
  · have hb' := hid (show b = 18442240474082181120 by have := hb.out; rw [if_pos rfl] at this; omega)
    clear hb
    go_enter Tryd.func36, Tryd.ntmps36
    go_wp2
    go_ret
    exact ⟨by rw [hb'.out]; rfl, rfl⟩

set_option maxRecDepth 100000 in
set_option maxHeartbeats 1600000 in
theorem spec_FloatOf_norm (b e f : Nat) (s : Bool) (H : Fields b e f s) (h0 : 1 ≤ e) (h1 : e ≤ 2046) (w : World) :
    Calls Tryd.prog 36 #[.int .u64 b] w fun e w' => e = .returned (.float .f64 b) ∧ w' = w := by
  have a1 := H.a1
  have a2 := H.a2
  have a3 := H.a3
  have hbp : Hid (s = false → b = e * 4503599627370496 + f) := fun h => by have := H.hb; rw [h, if_neg (by simp), Nat.zero_add] at this; exact this
  have hbn : Hid (s = true → b = 9223372036854775808 + (e * 4503599627370496 + f)) := fun h => by have := H.hb; rw [h, if_pos rfl] at this; exact this
  have hf := H.hf
  have hof := ofint_run f hf
  have hd := fun t w => run_float_arith (P := Tryd.prog) w .quo t .f64 _ 4841369599423283200 _ (cut_F f 1022 (by omega) (by omega))
  have hm := fun t w => run_float_arith (P := Tryd.prog) w .add t .f64 _ 4607182418800017408 _ (more_F f hf)
  have hne : ((e : Int) == 2047) = false := beq_eq_false_iff_ne.2 (by omega)
  have hne0 : ((e : Int) == 0) = false := beq_eq_false_iff_ne.2 (by omega)
  have E0 : (1 : Int) ≤ e := by omega
  have E1 : (e : Int) ≤ 2046 := by omega
  have Hfin : Hid (F (2 ^ 52 + f) (e - 1) = e * 4503599627370496 + f) := by
    have := F_norm (e - 1) f hf (by omega)
    rw [show (e - 1 + 1) * 2 ^ 52 + f = e * 4503599627370496 + f by omega] at this
    exact this
  have Hc : Hid (2 ^ 52 + f < 2 ^ 53) := hid (by omega)
  have He := hid (show e - 1 + 1 = e by omega)
  have HF := hid hf
  have H1 := hid h1
  generalize F f 1074 = y1 at *
  generalize F f 1022 = y2 at *
  generalize 2 ^ 52 + f = c at *
  generalize e - 1 = T at *
  clear H h0 h1 hf
  go_enter Tryd.func36, Tryd.ntmps36
  go_wp2
  clear hof hd hm hne hne0
  go_loopw [6, 7] (fun a k wr => ∃ j : Nat, a = .float .f64 (F c j) ∧ k = .int .i64 ((T : Int) - j) ∧ Hid (1022 ≤ j) ∧ Hid (j ≤ 2045) ∧ wr = w) (fun _ k _ => (intOf k).toNat)
  case atStart => exact ⟨1022, rfl, by have := He.out; go_num, hid (by omega), hid (by omega), rfl⟩
  case round =>
    obtain ⟨j, rfl, rfl, P1, P2, rfl⟩ := hrel
    have hT : (T : Int) ≤ 2045 := by have := He.out; have := H1.out; omega
    have hT0 : (0 : Int) ≤ T := by omega
    have hj0 : (0 : Int) ≤ j := by omega
    have hj1 : (j : Int) ≤ 2045 := by have := P2.out; omega
    by_cases hlt : (0 : Int) < (T : Int) - j
    · have hx := fun t w => run_float_arith (P := Tryd.prog) w .mul t .f64 _ 4611686018427387904 _ (double_F c j Hc.out (by omega))
      go_wp2
      go_roundw
      case rel => exact ⟨j + 1, rfl, by go_num, hid (by have := P1.out; omega), hid (by omega), by first | trivial | rfl⟩
      case measure => simp [intOf]; omega
    · have Q0 := hid (show T ≤ j by omega)
      go_wp2
      go_loopw [6, 7] (fun a k wr' => ∃ i : Nat, a = .float .f64 (F c i) ∧ k = .int .i64 ((T : Int) - i) ∧ Hid (T ≤ i) ∧ Hid (i ≤ 2045) ∧ wr' = wr) (fun _ k _ => (-(intOf k)).toNat)
      case atStart => exact ⟨j, rfl, rfl, Q0, P2, rfl⟩
      case round =>
        obtain ⟨i, rfl, rfl, R1, R2, rfl⟩ := hrel
        have hi0 : (0 : Int) ≤ i := by omega
        have hi1 : (i : Int) ≤ 2045 := by have := R2.out; omega
        by_cases hlt2 : (T : Int) - i < 0
        · obtain ⟨i', hi'⟩ : ∃ i', i = i' + 1 := ⟨i - 1, by omega⟩
          have Hi := hid hi'
          have hx := fun t w => run_float_arith (P := Tryd.prog) w .quo t .f64 (F c i) 4611686018427387904 (F c i') (by rw [hi']; exact half_F c i' Hc.out (by omega))
          clear hi'
          go_wp2
          go_roundw
          case rel => exact ⟨i', rfl, by have := Hi.out; go_num, hid (by have := Hi.out; omega), hid (by have := Hi.out; omega), by first | trivial | rfl⟩
          case measure => have := Hi.out; simp [intOf]; omega
        · have ei := hid (show i = T by have := R1.out; omega)
          have hn := neg_run (F c i) (9223372036854775808 + F c i) (neg_bits' _ (by rw [ei.out, Hfin.out]; have := HF.out; have := He.out; have := H1.out; omega))
          cases s
          · go_wp2
            go_ret
            exact ⟨by rw [show b = F c i by rw [ei.out, Hfin.out, hbp.out (by first | trivial | rfl)]]; rfl, rfl⟩
          · go_wp2
            go_ret
            exact ⟨by rw [show b = 9223372036854775808 + F c i by rw [ei.out, Hfin.out, hbn.out (by first | trivial | rfl)]]; rfl, rfl⟩
set_option maxRecDepth 100000 in
set_option maxHeartbeats 1600000 in
theorem spec_FloatOf_low (b f : Nat) (s : Bool) (H : Fields b 0 f s) (w : World) :
    Calls Tryd.prog 36 #[.int .u64 b] w fun e w' => e = .returned (.float .f64 b) ∧ w' = w := by
  have a1 : bits .and .u64 ((b : Int) / 4503599627370496) 2047 = 0 := H.a1
  have a2 := H.a2
  have a3 := H.a3
  have hbp : Hid (s = false → b = f) := fun h => by have := H.hb; rw [h, if_neg (by simp)] at this; omega
  have hbn : Hid (s = true → b = 9223372036854775808 + f) := fun h => by have := H.hb; rw [h, if_pos rfl] at this; omega
  have hf := H.hf
  have hof := ofint_run f hf
  have hd := fun t w => run_float_arith (P := Tryd.prog) w .quo t .f64 _ 4841369599423283200 _ (cut_F f 1022 (by omega) (by omega))
  have Hfin : Hid (F f 0 = f) := F_sub f hf
  have Hc : Hid (f < 2 ^ 53) := hid (by omega)
  have HF := hid hf
  obtain ⟨T, HT⟩ : ∃ T : Nat, Hid (T = 0) := ⟨0, rfl⟩
  generalize F f 1074 = y1 at *
  clear H hf
  go_enter Tryd.func36, Tryd.ntmps36
  go_wp2
  clear hof hd
  go_loopw [6, 7] (fun a k wr => ∃ j : Nat, a = .float .f64 (F f j) ∧ k = .int .i64 ((T : Int) - j) ∧ Hid (1022 ≤ j) ∧ Hid (j ≤ 2045) ∧ wr = w) (fun _ k _ => (intOf k).toNat)
  case atStart => exact ⟨1022, rfl, by have := HT.out; go_num, hid (by omega), hid (by omega), rfl⟩
  case round =>
    obtain ⟨j, rfl, rfl, P1, P2, rfl⟩ := hrel
    have hT : (T : Int) ≤ 2045 := by have := HT.out; omega
    have hT0 : (0 : Int) ≤ T := by omega
    have hj0 : (0 : Int) ≤ j := by omega
    have hj1 : (j : Int) ≤ 2045 := by have := P2.out; omega
    by_cases hlt : (0 : Int) < (T : Int) - j
    · have hx := fun t w => run_float_arith (P := Tryd.prog) w .mul t .f64 _ 4611686018427387904 _ (double_F f j Hc.out (by omega))
      go_wp2
      go_roundw
      case rel => exact ⟨j + 1, rfl, by go_num, hid (by have := P1.out; omega), hid (by omega), by first | trivial | rfl⟩
      case measure => simp [intOf]; omega
    · have Q0 := hid (show T ≤ j by omega)
      go_wp2
      go_loopw [6, 7] (fun a k wr' => ∃ i : Nat, a = .float .f64 (F f i) ∧ k = .int .i64 ((T : Int) - i) ∧ Hid (T ≤ i) ∧ Hid (i ≤ 2045) ∧ wr' = wr) (fun _ k _ => (-(intOf k)).toNat)
      case atStart => exact ⟨j, rfl, rfl, Q0, P2, rfl⟩
      case round =>
        obtain ⟨i, rfl, rfl, R1, R2, rfl⟩ := hrel
        have hi0 : (0 : Int) ≤ i := by omega
        have hi1 : (i : Int) ≤ 2045 := by have := R2.out; omega
        by_cases hlt2 : (T : Int) - i < 0
        · obtain ⟨i', hi'⟩ : ∃ i', i = i' + 1 := ⟨i - 1, by omega⟩
          have Hi := hid hi'
          have hx := fun t w => run_float_arith (P := Tryd.prog) w .quo t .f64 (F f i) 4611686018427387904 (F f i') (by rw [hi']; exact half_F f i' Hc.out (by omega))
          clear hi'
          go_wp2
          go_roundw
          case rel => exact ⟨i', rfl, by have := Hi.out; go_num, hid (by have := Hi.out; omega), hid (by have := Hi.out; omega), by first | trivial | rfl⟩
          case measure => have := Hi.out; simp [intOf]; omega
        · have ei := hid (show i = T by have := R1.out; omega)
          have hn := neg_run (F f i) (9223372036854775808 + F f i) (neg_bits' _ (by rw [ei.out, HT.out, Hfin.out]; have := HF.out; omega))
          cases s
          · go_wp2
            go_ret
            exact ⟨by rw [show b = F f i by rw [ei.out, HT.out, Hfin.out, hbp.out (by first | trivial | rfl)]]; rfl, rfl⟩
          · go_wp2
            go_ret
            exact ⟨by rw [show b = 9223372036854775808 + F f i by rw [ei.out, HT.out, Hfin.out, hbn.out (by first | trivial | rfl)]]; rfl, rfl⟩

theorem spec_FloatOf (b : Nat) (hb : b < 18446744073709551616) (w : World) :
    Calls Tryd.prog 36 #[.int .u64 b] w fun e w' => ∃ y : Nat, e = .returned (.float .f64 y) ∧ y < 18446744073709551616 ∧ Hid (isN b = false → y = b) ∧ Hid (isN b = isN y) ∧ Still w w' := by
  obtain ⟨e, f, s, H⟩ := fields b hb
  have h1 := H.he
  have h2 := H.hf
  have h3 := H.hb
  have hm : b % 9223372036854775808 = e * 4503599627370496 + f := by
    cases s
    · rw [if_neg (by simp)] at h3; omega
    · rw [if_pos rfl] at h3; omega
  have keep : ∀ w', w' = w → Still w w' := fun w' h => by subst h; exact Still.refl _
  by_cases he : e = 2047
  · subst he
    by_cases hf : f = 0
    · subst hf
      refine (spec_FloatOf_inf b s H w).mono ?_
      rintro x w1 ⟨rfl, e1⟩
      exact ⟨b, rfl, hb, hid (fun _ => rfl), hid rfl, keep w1 e1⟩
    · refine (spec_FloatOf_nan b f s H hf w).mono ?_
      rintro x w1 ⟨y, rfl, n1, n2, st⟩
      have hN : isN b = true := (isN_iff b).2 (by omega)
      exact ⟨y, rfl, n2, hid (fun h => by rw [hN] at h; cases h), hid (by rw [hN, n1]), st⟩
  · by_cases h0 : e = 0
    · subst h0
      refine (spec_FloatOf_low b f s H w).mono ?_
      rintro x w1 ⟨rfl, e1⟩
      exact ⟨b, rfl, hb, hid (fun _ => rfl), hid rfl, keep w1 e1⟩
    · refine (spec_FloatOf_norm b e f s H (by omega) (by omega) w).mono ?_
      rintro x w1 ⟨rfl, e1⟩
      exact ⟨b, rfl, hb, hid (fun _ => rfl), hid rfl, keep w1 e1⟩
end Go.Proofs.YtoppccfgcccijaaDoor
/- One float, all NaNs being one. No statement of its own; no conditions. -/

namespace Go.Proofs.YtoppccfgcccijaaDoor

/-- One float, all NaNs being one. -/
def Same (x y : Nat) : Prop := (isN x = true ∧ isN y = true) ∨ (isN x = false ∧ y = x)
theorem Same.refl (x : Nat) : Same x x := by
  by_cases h : isN x = true
  · exact .inl ⟨h, h⟩
  · exact .inr ⟨by simpa using h, rfl⟩
theorem Same.symm {x y : Nat} (h : Same x y) : Same y x := by
  rcases h with ⟨a, b⟩ | ⟨a, rfl⟩
  · exact .inl ⟨b, a⟩
  · exact .inr ⟨a, rfl⟩
theorem Same.trans {x y z : Nat} (h : Same x y) (k : Same y z) : Same x z := by
  rcases h with ⟨a, b⟩ | ⟨a, rfl⟩
  · rcases k with ⟨c, d⟩ | ⟨c, rfl⟩
    · exact .inl ⟨a, d⟩
    · rw [b] at c; cases c
  · exact k
end Go.Proofs.YtoppccfgcccijaaDoor
