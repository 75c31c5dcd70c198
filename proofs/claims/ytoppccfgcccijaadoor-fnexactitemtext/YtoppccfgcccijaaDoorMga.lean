/- Texts of this proof in one: Base Xa18 Help Flo Flx. -/
import Derived.WalkKit
import Derived.WalkSpells
import Derived.Laws.CopyOwn
import Derived.Deep.Draws
import Derived.OpenShut
import Derived.Test.YtoppccfgcccijaaDoorRows
import Derived.Deep.QuietTactic
import Derived.BigQuiet
import Derived.Laws.FloatArith
/- Plain notions for the proofs of this seat: what a slice of bytes reads as, in a world; how that is kept. No statement of its own; no conditions. -/





namespace Go.Proofs.YtoppccfgcccijaaDoor
open Go.RowKit

/-- The byte cells of a list of numbers. -/
def bys (zs : List Int) : List Value := zs.map (Value.int .u8)
theorem bys_length (zs : List Int) : (bys zs).length = zs.length := by simp [bys]

/-- A slice of n bytes at 'ad' reads, in the world w, as the numbers zs. -/
structure Reads (w : World) (ad : Option Addr) (n : Nat) (zs : List Int) : Prop where
  len : zs.length = n
  cells : n = 0 ∨ ∃ b off, ad = some ⟨b, off, none⟩ ∧ ∀ i, i < n → w.cell? ⟨b, off + i, none⟩ = some (.int .u8 (zs.getD i 0))
  bd : ∀ i, 0 ≤ zs.getD i 0 ∧ zs.getD i 0 ≤ 255

theorem Reads.below {w w' : World} {ad : Option Addr} {n : Nat} {zs : List Int} (h : Reads w ad n zs) {B : Nat} (hb : Below B w w') (hB : w.heap.size ≤ B) : Reads w' ad n zs := by
  refine ⟨h.len, ?_, h.bd⟩
  rcases h.cells with h0 | ⟨b, off, rfl, hc⟩
  · exact .inl h0
  · refine .inr ⟨b, off, rfl, fun i hi => ?_⟩
    have hc' := hc i hi
    have := World.block_lt_of_cell? w _ hc'
    rw [hb.cell (p := ⟨b, off + i, none⟩) (by simp at this ⊢; omega)]
    exact hc'

/-- A row of the call's own, read. -/
theorem Reads.own {w : World} {base : Nat} {v : Value} {n : Nat} {zs : List Int} (h : w.ownsRow base 5 1 v n (bys zs)) (hbd : ∀ i, 0 ≤ zs.getD i 0 ∧ zs.getD i 0 ≤ 255) :
    ∃ ad cap, v = .slice ad n cap ∧ Reads w ad n zs ∧ (ad = none ∨ ∃ g, ad = some ⟨g, 0, none⟩ ∧ base ≤ g ∧ g < w.heap.size) := by
  have hl : zs.length = n := by have := h.1; simpa [bys] using this
  rcases h.2 with ⟨rfl, rfl⟩ | ⟨g, cap, cur, rfl, hb, hg, hnc, hcm, hcs, htake⟩
  · exact ⟨none, 0, rfl, ⟨hl, .inl rfl, hbd⟩, .inl rfl⟩
  · refine ⟨_, cap, rfl, ⟨hl, .inr ⟨g, 0, rfl, fun i hi => ?_⟩, hbd⟩, .inr ⟨g, rfl, hb, (Array.getElem?_eq_some_iff.1 hg).1⟩⟩
    rw [Nat.zero_add, h.cellAt i (by omega)]
    simp [bys, hl, hi]

/-- A fact kept from the walk. -/
theorem hid {p : Prop} (h : p) : Hid p := h

/-- Nothing in memory has turned (draws alone). -/
structure Still (w w' : World) : Prop where
  os : w'.os = w.os
  tape : w'.tape = w.tape
  output : w'.output = w.output
  heap : w'.heap = w.heap
theorem Still.refl (w : World) : Still w w := ⟨rfl, rfl, rfl, rfl⟩
theorem Still.trans {a b c : World} (h : Still a b) (k : Still b c) : Still a c := ⟨k.os.trans h.os, k.tape.trans h.tape, k.output.trans h.output, k.heap.trans h.heap⟩
theorem Still.drewN (w : World) (n : Nat) : Still w (w.drewN n) := ⟨rfl, rfl, rfl, rfl⟩
theorem Still.drew (w : World) : Still w w.drew := ⟨rfl, rfl, rfl, rfl⟩
theorem Still.below {w w' : World} (h : Still w w') (B : Nat) : Below B w w' := ⟨h.os, h.tape, h.output, by rw [h.heap]; exact Nat.le_refl _, fun k _ => by rw [h.heap]⟩
theorem Still.size {w w' : World} (h : Still w w') : w'.heap.size = w.heap.size := by rw [h.heap]
theorem Still.cell {w w' : World} (h : Still w w') (a : Addr) : w'.cell? a = w.cell? a := by simp [World.cell?, h.heap]
theorem Still.frozen {w w' : World} (h : Still w w') (a : Addr) : w'.frozen? a = w.frozen? a := by simp [World.frozen?, h.heap]
theorem Still.reads {w w' : World} (h : Still w w') {ad : Option Addr} {n : Nat} {zs : List Int} (hr : Reads w ad n zs) : Reads w' ad n zs := hr.below (h.below w.heap.size) (Nat.le_refl _)
theorem Still.owns {w w' : World} (h : Still w w') {base : Nat} {e : TypeId} {s : Nat} {v : Value} {n : Nat} {xs : List Value} (ho : w.ownsRow base e s v n xs) : w'.ownsRow base e s v n xs := by
  unfold World.ownsRow at ho ⊢; rw [h.heap]; exact ho

theorem owns_below {w w' : World} {B : Nat} (hb : Below B w w') (hB : w.heap.size ≤ B) {base : Nat} {e : TypeId} {s : Nat} {v : Value} {n : Nat} {xs : List Value} (ho : w.ownsRow base e s v n xs) : w'.ownsRow base e s v n xs := by
  refine ⟨ho.1, ?_⟩
  rcases ho.2 with hn | ⟨g, cap, cur, rfl, hbg, hg, rest⟩
  · exact .inl hn
  · exact .inr ⟨g, cap, cur, rfl, hbg, by rw [hb.block g (by have := (Array.getElem?_eq_some_iff.1 hg).1; omega)]; exact hg, rest⟩

/-- Reading is kept while another row is written. -/
theorem Reads.other {w w' : World} {ad : Option Addr} {n : Nat} {zs : List Int} (h : Reads w ad n zs) {row : Option Nat} (hg : w.grownBy w' row) (hne : ∀ a, ad = some a → some a.block ≠ row) : Reads w' ad n zs := by
  refine ⟨h.len, ?_, h.bd⟩
  rcases h.cells with h0 | ⟨b, off, rfl, hc⟩
  · exact .inl h0
  · exact .inr ⟨b, off, rfl, fun i hi => hg.cell (hc i hi) (hne ⟨b, off, none⟩ rfl)⟩

/-- What markByteS writes: k, k + 1 .., as bytes. -/
def marks (k : Int) (n : Nat) : List Int := (List.range n).map fun i => (k + (i : Nat)) % 256
theorem marks_length (k : Int) (n : Nat) : (marks k n).length = n := by simp [marks]
theorem marks_succ (k : Int) (n : Nat) : marks k (n + 1) = marks k n ++ [(k + (n : Nat)) % 256] := by simp [marks, List.range_succ]
theorem marks_at (k : Int) (n i : Nat) (h : i < n) : (marks k n).getD i 0 = (k + (i : Nat)) % 256 := by simp [marks, h]
theorem marks_bd (k : Int) (n i : Nat) : 0 ≤ (marks k n).getD i 0 ∧ (marks k n).getD i 0 ≤ 255 := by
  by_cases h : i < n
  · rw [marks_at k n i h]; omega
  · simp [marks, h]
theorem set_mid (A : List Value) (X : List Value) (j : Nat) (c : Value) (hA : A.length = j) (hX : j < X.length) : (A ++ X.drop j).set j c = (A ++ [c]) ++ X.drop (j + 1) := by
  rw [List.set_append_right _ _ (by omega), hA, Nat.sub_self, List.drop_eq_getElem_cons hX, List.set_cons_zero]; simp

theorem grown_trans {a b c : World} {row : Option Nat} (h : a.grownBy b row) (k : b.grownBy c row) : a.grownBy c row :=
  ⟨k.os.trans h.os, k.tape.trans h.tape, k.output.trans h.output, Nat.le_trans h.size k.size, fun i hi hr => (k.block i (Nat.lt_of_lt_of_le hi h.size) hr).trans (h.block i hi hr)⟩
theorem grown_refl (w : World) (row : Option Nat) : w.grownBy w row := ⟨rfl, rfl, rfl, Nat.le_refl _, fun _ _ _ => rfl⟩
theorem bys_append (a b : List Int) : bys (a ++ b) = bys a ++ bys b := by simp [bys]

/-- Two rows, the second made behind the first. -/
theorem apart_of {ad ad' : Option Addr} {B lo hi n cap : Nat} (h : ad = none ∨ ∃ g, ad = some ⟨g, 0, none⟩ ∧ lo ≤ g ∧ g < B) (h' : ad' = none ∨ ∃ g, ad' = some ⟨g, 0, none⟩ ∧ B ≤ g ∧ g < hi) :
    ∀ a, ad = some a → some a.block ≠ (Value.slice ad' n cap).ownBlock := by
  intro a ha
  rcases h' with rfl | ⟨g', rfl, h1, h2⟩
  · simp [Value.ownBlock]
  · rcases h with rfl | ⟨g, rfl, h3, h4⟩
    · cases ha
    · cases ha; simp [Value.ownBlock]; omega
theorem own_ge {ad : Option Addr} {B hi n cap : Nat} (h : ad = none ∨ ∃ g, ad = some ⟨g, 0, none⟩ ∧ B ≤ g ∧ g < hi) : ∀ k, (Value.slice ad n cap).ownBlock = some k → B ≤ k := by
  intro k hk
  rcases h with rfl | ⟨g, rfl, h1, h2⟩
  · simp [Value.ownBlock] at hk
  · simp [Value.ownBlock] at hk; omega

/-- A slice of bytes that came in, as the row's step tells it, read. -/
theorem reads_in {w : World} {a : Option Addr} {len cap : Nat} {zs : List Int}
    (h : (a = none ∧ len = 0 ∧ cap = 0 ∧ zs = []) ∨ ∃ x, a = some x ∧ len ≤ cap ∧ cap ≤ maxLen ∧ zs.length = cap ∧ (∀ i, i < zs.length → w.cell? (x.add i) = some (.int .u8 (zs.getD i 0))) ∧ ∀ n ∈ zs, (Lit.int .u8 n).wf = true) :
    Reads w a len (zs.take len) := by
  rcases h with ⟨rfl, rfl, rfl, rfl⟩ | ⟨x, rfl, hlc, hm, hz, hc, hwf⟩
  · exact ⟨rfl, .inl rfl, by simp⟩
  · refine ⟨by simp; omega, ?_, ?_⟩
    · by_cases h0 : len = 0
      · exact .inl h0
      · obtain ⟨b, off, rfl, hc'⟩ := ints_at hc (by omega)
        refine .inr ⟨b, off, rfl, fun i hi => ?_⟩
        rw [hc' i (by omega)]
        simp [hi]
    · intro i
      by_cases hi : i < (zs.take len).length
      · rw [List.getD_eq_getElem?_getD, List.getElem?_eq_getElem hi]
        exact bounds_u8 (hwf _ (List.mem_of_mem_take (List.getElem_mem hi)))
      · rw [List.getD_eq_getElem?_getD, List.getElem?_eq_none (by omega)]; simp

theorem len_in {w : World} {a : Option Addr} {len cap : Nat} {zs : List Int} {k : IntKind}
    (h : (a = none ∧ len = 0 ∧ cap = 0 ∧ zs = []) ∨ ∃ x, a = some x ∧ len ≤ cap ∧ cap ≤ maxLen ∧ zs.length = cap ∧ (∀ i, i < zs.length → w.cell? (x.add i) = some (.int k (zs.getD i 0))) ∧ ∀ n ∈ zs, (Lit.int k n).wf = true) :
    len ≤ maxLen := by
  rcases h with ⟨_, rfl, _⟩ | ⟨_, _, h1, h2, _⟩
  · exact Nat.zero_le _
  · exact Nat.le_trans h1 h2

/-- The cells that an append or a copy takes over. -/
theorem Reads.news {w : World} {a : Addr} {n : Nat} {zs : List Int} (h : Reads w (some a) n zs) : ∀ j u, (bys zs)[j]? = some u → w.cell? (a.add j) = some u := by
  intro j u hu
  have hj : j < zs.length := by
    have := (List.getElem?_eq_some_iff.1 hu).1
    simpa [bys] using this
  rcases h.cells with h0 | ⟨b, off, hb, hc⟩
  · have := h.len; omega
  · cases hb
    have e : (⟨b, off, none⟩ : Addr).add j = ⟨b, off + j, none⟩ := by unfold Addr.add; split <;> simp_all
    rw [e, hc j (by have := h.len; omega)]
    simpa [bys, hj] using hu
theorem bys_one (zs : List Int) : ∀ u ∈ bys zs, u.oneCell' = true := by
  intro u hu
  simp only [bys, List.mem_map] at hu
  obtain ⟨x, _, rfl⟩ := hu
  rfl
theorem Reads.pos {w : World} {ad : Option Addr} {n : Nat} {zs : List Int} (h : Reads w ad n zs) (hn : 0 < n) : ∃ b off, ad = some ⟨b, off, none⟩ := by
  rcases h.cells with h0 | ⟨b, off, hb, _⟩
  · omega
  · exact ⟨b, off, hb⟩

theorem getD_bys (zs : List Int) (i : Nat) : (bys zs)[i]? = (zs[i]?).map (Value.int .u8) := by simp [bys]
end Go.Proofs.YtoppccfgcccijaaDoor
/- Chapter 18, plain: decimal digits, hexadecimal digits. No program, no conditions. -/

namespace Go.Proofs.YtoppccfgcccijaaDoor
open Go.RowKit
set_option maxRecDepth 100000

/-- Decimal digits, the lowest first. -/
def lowD : Nat → Nat → List Int
  | 0, n => [48 + (n : Int)]
  | f + 1, n => if 9 < n then (48 + (n : Int) % 10) :: lowD f (n / 10) else [48 + (n : Int)]
def decN (n : Nat) : List Int := (lowD 20 n).reverse
def decI (n : Int) : List Int := if n < 0 then 45 :: decN (-n).toNat else decN n.toNat
theorem lowD_big {f n : Nat} (h : 9 < n) : lowD (f + 1) n = (48 + (n : Int) % 10) :: lowD f (n / 10) := by rw [lowD, if_pos h]
theorem lowD_one {f n : Nat} (h : ¬ 9 < n) : lowD f n = [48 + (n : Int)] := by
  cases f with
  | zero => rfl
  | succ f => rw [lowD, if_neg h]
theorem lowD_bd : ∀ (f n : Nat), n < 10 ^ (f + 1) → ∀ z ∈ lowD f n, 48 ≤ z ∧ z ≤ 57
  | 0, n, h, z, hz => by
    rw [lowD] at hz
    obtain rfl := List.mem_singleton.1 hz
    simp at h
    omega
  | f + 1, n, h, z, hz => by
    by_cases hn : 9 < n
    · rw [lowD_big hn] at hz
      rcases List.mem_cons.1 hz with rfl | hz
      · omega
      · exact lowD_bd f (n / 10) (by rw [Nat.pow_succ] at h; omega) z hz
    · rw [lowD_one hn] at hz
      obtain rfl := List.mem_singleton.1 hz
      omega
theorem lowD_len : ∀ (f n : Nat), 1 ≤ (lowD f n).length ∧ (lowD f n).length ≤ f + 1
  | 0, n => by simp [lowD]
  | f + 1, n => by
    have := lowD_len f (n / 10)
    by_cases hn : 9 < n
    · rw [lowD_big hn, List.length_cons]; omega
    · rw [lowD_one hn]; simp
theorem decN_len (n : Nat) : 1 ≤ (decN n).length ∧ (decN n).length ≤ 21 := by unfold decN; rw [List.length_reverse]; exact lowD_len 20 n
theorem decN_bd {n : Nat} (h : n ≤ 9223372036854775808) : ∀ z ∈ decN n, 48 ≤ z ∧ z ≤ 57 := fun z hz => lowD_bd 20 n (by omega) z (List.mem_reverse.1 hz)
theorem decI_len (n : Int) : 1 ≤ (decI n).length ∧ (decI n).length ≤ 23 := by
  unfold decI
  split
  · rw [List.length_cons]; have := decN_len (-n).toNat; omega
  · have := decN_len n.toNat; omega
theorem decI_bd {n : Int} (h : -9223372036854775808 ≤ n ∧ n ≤ 9223372036854775807) : ∀ z ∈ decI n, z = 45 ∨ (48 ≤ z ∧ z ≤ 57) := by
  unfold decI
  intro z hz
  split at hz
  · rcases List.mem_cons.1 hz with rfl | hz
    · exact .inl rfl
    · exact .inr (decN_bd (by omega) z hz)
  · exact .inr (decN_bd (by omega) z hz)
theorem decI_min : decI (-9223372036854775808) = [45, 57, 50, 50, 51, 51, 55, 50, 48, 51, 54, 56, 53, 52, 55, 55, 53, 56, 48, 56] := by decide +kernel
/-- Hexadecimal digits. -/
def hexD (d : Int) : Int := if d < 10 then 48 + d else 87 + d
def hexB (zs : List Int) : List Int := zs.flatMap (fun z => [hexD (z / 16), hexD (z % 16)])
theorem hexB_cons (z : Int) (zs : List Int) : hexB (z :: zs) = hexD (z / 16) :: hexD (z % 16) :: hexB zs := rfl
theorem hexB_app (a b : List Int) : hexB (a ++ b) = hexB a ++ hexB b := by unfold hexB; rw [List.flatMap_append]
theorem hexB_len : ∀ (zs : List Int), (hexB zs).length = 2 * zs.length
  | [] => rfl
  | z :: zs => by rw [hexB_cons, List.length_cons, List.length_cons, List.length_cons, hexB_len zs]; omega
theorem hexD_bd {d : Int} (h : 0 ≤ d ∧ d ≤ 15) : (48 ≤ hexD d ∧ hexD d ≤ 57) ∨ (97 ≤ hexD d ∧ hexD d ≤ 102) := by
  unfold hexD
  split <;> omega
theorem hexB_bd : ∀ (zs : List Int), (∀ z ∈ zs, 0 ≤ z ∧ z ≤ 255) → ∀ u ∈ hexB zs, (48 ≤ u ∧ u ≤ 57) ∨ (97 ≤ u ∧ u ≤ 102)
  | [], _, u, hu => by cases hu
  | z :: zs, h, u, hu => by
    have hz := h z (List.mem_cons_self ..)
    rw [hexB_cons] at hu
    rcases List.mem_cons.1 hu with rfl | hu
    · exact hexD_bd (by omega)
    · rcases List.mem_cons.1 hu with rfl | hu
      · exact hexD_bd (by omega)
      · exact hexB_bd zs (fun x hx => h x (List.mem_cons_of_mem _ hx)) u hu
/-- What a hexadecimal digit says; none: it is no digit. -/
def unD (c : Int) : Option Int := if 48 ≤ c ∧ c ≤ 57 then some (c - 48) else if 97 ≤ c ∧ c ≤ 102 then some (c - 87) else none
theorem unD_hexD {d : Int} (h : 0 ≤ d ∧ d ≤ 15) : unD (hexD d) = some d := by
  unfold unD hexD
  split
  · rw [if_pos (by omega)]; congr 1; omega
  · rw [if_neg (by omega), if_pos (by omega)]; congr 1; omega
/-- Bytes out of pairs of hexadecimal digits. -/
def unB : List Int → Option (List Int)
  | [] => some []
  | [_] => none
  | a :: b :: zs => match unD a, unD b, unB zs with
    | some x, some y, some r => some ((x * 16 + y) :: r)
    | _, _, _ => none
theorem unB_hexB : ∀ (zs : List Int), (∀ z ∈ zs, 0 ≤ z ∧ z ≤ 255) → unB (hexB zs) = some zs
  | [], _ => rfl
  | z :: zs, h => by
    have hz := h z (List.mem_cons_self ..)
    rw [hexB_cons, unB, unD_hexD (by omega), unD_hexD (by omega), unB_hexB zs (fun x hx => h x (List.mem_cons_of_mem _ hx))]
    simp only
    rw [show z / 16 * 16 + z % 16 = z by omega]
theorem hexB_inj {a b : List Int} (ha : ∀ z ∈ a, 0 ≤ z ∧ z ≤ 255) (hb : ∀ z ∈ b, 0 ≤ z ∧ z ≤ 255) (h : hexB a = hexB b) : a = b := by
  have := unB_hexB a ha
  rw [h, unB_hexB b hb] at this
  exact (Option.some.inj this).symm
/-- Digits tell their number. -/
def valL : List Int → Int
  | [] => 0
  | z :: zs => (z - 48) + 10 * valL zs
theorem valL_low : ∀ (f n : Nat), valL (lowD f n) = n
  | 0, n => by simp [lowD, valL]; omega
  | f + 1, n => by
    by_cases hn : 9 < n
    · rw [lowD_big hn, valL, valL_low f (n / 10)]; omega
    · rw [lowD_one hn]; simp [valL]; omega
theorem decN_inj {a b : Nat} (h : decN a = decN b) : a = b := by
  unfold decN at h
  have h2 := List.reverse_inj.1 h
  have := congrArg valL h2
  rw [valL_low, valL_low] at this
  omega
theorem decI_inj {a b : Int} (ha : -9223372036854775808 ≤ a ∧ a ≤ 9223372036854775807) (hb : -9223372036854775808 ≤ b ∧ b ≤ 9223372036854775807) (h : decI a = decI b) : a = b := by
  have hd : ∀ n : Nat, n ≤ 9223372036854775808 → ∀ l, decN n ≠ 45 :: l := fun n hn l e => by
    have := decN_bd hn 45 (by rw [e]; exact List.mem_cons_self ..)
    omega
  unfold decI at h
  split at h
  · split at h
    · have := decN_inj (List.cons.inj h).2; omega
    · exact absurd h.symm (hd _ (by omega) _)
  · split at h
    · exact absurd h (hd _ (by omega) _)
    · have := decN_inj h; omega
end Go.Proofs.YtoppccfgcccijaaDoor
/- The contracts of the law package's helpers: toByteS, eqByteS, markByteS, heldByteS. Conditions: lengths of at most 2^21 where memory is made or counted. -/




namespace Go.Proofs.YtoppccfgcccijaaDoor
open Go.RowKit
set_option maxRecDepth 100000

theorem Tryd.info5 : (Tryd.prog.info? 5).map (fun i => (i.zero, i.size, i.bytes)) = some (some (.int .u8 0), 1, 1) := by kernel_rfl

theorem set_take_step (zs : List Int) (k : Nat) (hk : k < zs.length) (m : Nat) (hm : m = zs.length) :
    (bys (zs.take k) ++ List.replicate (m - k) (Value.int .u8 0)).set k (.int .u8 (zs.getD k 0)) = bys (zs.take (k + 1)) ++ List.replicate (m - (k + 1)) (Value.int .u8 0) := by
  subst hm
  apply List.ext_getElem?
  intro j
  simp only [bys, List.getElem?_set, List.getElem?_append, List.getElem?_map, List.getElem?_replicate, List.length_map, List.length_take, List.length_append, List.length_replicate, List.getElem?_take]
  by_cases h1 : k = j
  · subst h1
    simp [hk, show min (k + 1) zs.length = k + 1 by omega, show min k zs.length = k by omega, show zs.length - k ≠ 0 by omega]
  · by_cases h2 : j < k
    · simp [h1, show j < min k zs.length by omega, show j < min (k+1) zs.length by omega, show j < k + 1 by omega, h2]
    · by_cases h3 : j < zs.length
      · simp [h1, show ¬ j < min k zs.length by omega, show ¬ j < min (k+1) zs.length by omega, show j - min k zs.length < zs.length - k by omega, show j - min (k+1) zs.length < zs.length - (k+1) by omega]
      · simp [h1, show ¬ j < min k zs.length by omega, show ¬ j < min (k+1) zs.length by omega, show ¬ j - min k zs.length < zs.length - k by omega, show ¬ j - min (k+1) zs.length < zs.length - (k+1) by omega]

set_option maxHeartbeats 800000 in
theorem toByteS_pos (b off n cap : Nat) (zs : List Int) (w : World) (hz : zs.length = n) (hn : n ≤ 2097152) (hb : b < w.heap.size)
    (hc : ∀ i, i < n → w.cell? ⟨b, off + i, none⟩ = some (.int .u8 (zs.getD i 0))) :
    Calls Tryd.prog 16 #[.slice (some ⟨b, off, none⟩) n cap] w fun e w' =>
      e = .returned (.slice (some ⟨w.heap.size, 0, none⟩) n n) ∧ w'.ownsRow w.heap.size 5 1 (.slice (some ⟨w.heap.size, 0, none⟩) n n) n (bys zs) ∧ Below w.heap.size w w' := by
  obtain ⟨i0, hi, hz0, hz1, hz2⟩ := info_parts Tryd.info5
  go_enter Tryd.func16, Tryd.ntmps16
  go_wp2_with (at_make; refine wpList_make_full _ rfl _ _ 23 rfl w.heap.size 5 i0 (.int .u8 0) 1 Tryd.underlying23 hi hz0 hz1 _ _ _ _ n rfl rfl (by omega) (by omega) ?b2 ?b3 (Nat.le_refl _) ?_)
  case b2 => rw [hz2]; omega
  case b3 => unfold maxLen; omega
  intro w0 hown0 hgrow0
  go_wp2
  go_loopw [4] (fun i wr => ∃ k : Nat, k ≤ n ∧ i = .int .i64 k ∧ wr.ownsRow w.heap.size 5 1 (.slice (some ⟨w.heap.size, 0, none⟩) n n) n (bys (zs.take k) ++ List.replicate (n - k) (Value.int .u8 0)) ∧ Below w.heap.size w wr)
    (fun i _ => n - (intOf i).toNat)
  case atStart =>
    refine ⟨0, Nat.zero_le _, rfl, ?_, (Below.refl _ _).grown hgrow0 (Nat.le_refl _) (fun k h => by cases h)⟩
    rw [toList_madeCells_one] at hown0
    simpa [bys] using hown0
  case round =>
    obtain ⟨k, hk, rfl, hown, hnx⟩ := hrel
    by_cases hlt : k < n
    · have hcx : wr.cell? ⟨b, off + k, none⟩ = some (.int .u8 (zs.getD k 0)) := (hnx.cell (by exact hb)).trans (hc k hlt)
      have hcy : wr.cell? ⟨w.heap.size, k, none⟩ = some (.int .u8 0) := by
        rw [hown.cellAt k (by omega), List.getElem?_append_right (by simp [bys]; omega)]
        simp [bys, hz, Nat.min_eq_left hk, show 0 < n - k by omega]
      have hfr : wr.frozen? ⟨w.heap.size, k, none⟩ = false := hown.frozenAt k
      have R := hown.stored k (.int .u8 (zs.getD k 0))
      rw [set_take_step zs k (by omega) n hz.symm] at R
      have R1 := hid R
      clear R hown
      generalize zs.getD k 0 = c at hcx R1
      go_wp2
      go_roundw
      case rel => exact ⟨k + 1, by omega, by go_num, by simpa using R1.out.1, hnx.setCell (Nat.le_refl _) _⟩
      case measure => simp [intOf]; omega
    · go_wp2
      go_ret
      have hkn : k = n := by omega
      subst hkn
      refine ⟨rfl, ?_, hnx⟩
      rw [List.take_of_length_le (by omega)] at hown
      simpa using hown

set_option maxHeartbeats 800000 in
theorem toByteS_zero (ad : Option Addr) (cap : Nat) (w : World) :
    Calls Tryd.prog 16 #[.slice ad 0 cap] w fun e w' =>
      e = .returned (.slice (some ⟨w.heap.size, 0, none⟩) 0 0) ∧ w'.ownsRow w.heap.size 5 1 (.slice (some ⟨w.heap.size, 0, none⟩) 0 0) 0 (bys []) ∧ Below w.heap.size w w' := by
  obtain ⟨i0, hi, hz0, hz1, hz2⟩ := info_parts Tryd.info5
  go_enter Tryd.func16, Tryd.ntmps16
  go_wp2_with (at_make; refine wpList_make_full _ rfl _ _ 23 rfl w.heap.size 5 i0 (.int .u8 0) 1 Tryd.underlying23 hi hz0 hz1 _ _ _ _ 0 rfl rfl (by omega) (by omega) ?b2 ?b3 (Nat.le_refl _) ?_)
  case b2 => rw [hz2]; omega
  case b3 => unfold maxLen; omega
  intro w0 hown0 hgrow0
  have H0 := hid hown0
  clear hown0
  go_wp2
  go_loopw [4] (fun i wr => i = .int .i64 (0 : Nat) ∧ wr = w0) (fun i _ => 0)
  case atStart => exact ⟨rfl, rfl⟩
  case round =>
    obtain ⟨rfl, rfl⟩ := hrel
    go_wp2
    go_ret
    refine ⟨rfl, ?_, (Below.refl _ _).grown hgrow0 (Nat.le_refl _) (fun k h => by cases h)⟩
    have h := H0.out
    simpa [bys, madeCells] using h

theorem toByteS_any {ad : Option Addr} {n : Nat} (cap : Nat) {zs : List Int} {w : World} (h : Reads w ad n zs) (hn : n ≤ 2097152) :
    Calls Tryd.prog 16 #[.slice ad n cap] w fun e w' =>
      e = .returned (.slice (some ⟨w.heap.size, 0, none⟩) n n) ∧ w'.ownsRow w.heap.size 5 1 (.slice (some ⟨w.heap.size, 0, none⟩) n n) n (bys zs) ∧ Below w.heap.size w w' := by
  obtain ⟨hl, hc, _⟩ := h
  by_cases h0 : n = 0
  · subst h0
    obtain rfl : zs = [] := List.eq_nil_of_length_eq_zero hl
    exact toByteS_zero ad cap w
  · rcases hc with h | ⟨b, off, rfl, hc⟩
    · exact absurd h h0
    · exact toByteS_pos b off n cap zs w hl hn (by have := World.block_lt_of_cell? w _ (hc 0 (by omega)); exact this) hc

set_option maxHeartbeats 800000 in
/-- Two slices that read alike are told alike. -/
theorem eqByteS_pos (b off cap b' off' cap' n : Nat) (zs : List Int) (w : World) (hn : n ≤ 2097152)
    (hc : ∀ i, i < n → w.cell? ⟨b, off + i, none⟩ = some (.int .u8 (zs.getD i 0))) (hc' : ∀ i, i < n → w.cell? ⟨b', off' + i, none⟩ = some (.int .u8 (zs.getD i 0))) :
    Calls Tryd.prog 10 #[.slice (some ⟨b, off, none⟩) n cap, .slice (some ⟨b', off', none⟩) n cap'] w fun e w' => e = .returned (.bool true) ∧ Still w w' := by
  go_enter Tryd.func10, Tryd.ntmps10
  go_wp2
  go_loopw [5] (fun i wr => ∃ k m : Nat, k ≤ n ∧ i = .int .i64 k ∧ wr = w.drewN m) (fun i _ => n - (intOf i).toNat)
  case atStart => exact ⟨0, 0, Nat.zero_le _, rfl, rfl⟩
  case round =>
    obtain ⟨k, m, hk, rfl, rfl⟩ := hrel
    by_cases hlt : k < n
    · have h1 := hc k hlt
      have h2 := hc' k hlt
      generalize zs.getD k 0 = c at h1 h2
      have hlt' : (k : Int) < (n : Int) := by omega
      go_wp2
      go_quiet (fail)
      go_wp2
      go_roundw
      case rel => exact ⟨k + 1, _, by omega, by go_num, rfl⟩
      case measure => simp [intOf]; omega
    · go_wp2
      go_ret
      exact ⟨rfl, Still.drewN _ _⟩

set_option maxHeartbeats 800000 in
theorem eqByteS_zero (ad ad' : Option Addr) (cap cap' : Nat) (w : World) :
    Calls Tryd.prog 10 #[.slice ad 0 cap, .slice ad' 0 cap'] w fun e w' => e = .returned (.bool true) ∧ Still w w' := by
  go_enter Tryd.func10, Tryd.ntmps10
  go_wp2
  go_loopw [5] (fun i wr => i = .int .i64 (0 : Nat) ∧ wr = w) (fun _ _ => 0)
  case atStart => exact ⟨rfl, rfl⟩
  case round =>
    obtain ⟨rfl, rfl⟩ := hrel
    go_wp2
    go_ret
    exact ⟨rfl, Still.refl _⟩

theorem eqByteS_any {ad ad' : Option Addr} {n : Nat} (cap cap' : Nat) {zs : List Int} {w : World} (h : Reads w ad n zs) (h' : Reads w ad' n zs) (hn : n ≤ 2097152) :
    Calls Tryd.prog 10 #[.slice ad n cap, .slice ad' n cap'] w fun e w' => e = .returned (.bool true) ∧ Still w w' := by
  obtain ⟨hl, hc, _⟩ := h
  obtain ⟨hl', hc', _⟩ := h'
  by_cases h0 : n = 0
  · subst h0; exact eqByteS_zero ad ad' cap cap' w
  · rcases hc with h | ⟨b, off, rfl, hc⟩
    · exact absurd h h0
    rcases hc' with h | ⟨b', off', rfl, hc'⟩
    · exact absurd h h0
    exact eqByteS_pos b off cap b' off' cap' n zs w hn hc hc'

set_option maxHeartbeats 800000 in
theorem markByteS_pos (base g n cap : Nat) (k : Int) (xs : List Value) (w : World) (hn : n ≤ 2097152) (hk0 : 0 ≤ k) (hk1 : k ≤ 1000000000)
    (hown : w.ownsRow base 5 1 (.slice (some ⟨g, 0, none⟩) n cap) n xs) :
    Calls Tryd.prog 13 #[.slice (some ⟨g, 0, none⟩) n cap, .int .i64 k] w fun e w' =>
      e = .returned (.int .i64 (k + n)) ∧ w'.ownsRow base 5 1 (.slice (some ⟨g, 0, none⟩) n cap) n (bys (marks k n)) ∧ w.grownBy w' (some g) := by
  have hxl : xs.length = n := by have := hown.1; omega
  go_enter Tryd.func13, Tryd.ntmps13
  go_wp2
  go_loopw [1, 5] (fun kk i wr => ∃ j : Nat, j ≤ n ∧ i = .int .i64 j ∧ kk = .int .i64 (k + j) ∧ wr.ownsRow base 5 1 (.slice (some ⟨g, 0, none⟩) n cap) n (bys (marks k j) ++ xs.drop j) ∧ w.grownBy wr (some g)) (fun _ i _ => n - (intOf i).toNat)
  case atStart => exact ⟨0, Nat.zero_le _, rfl, by simp, by simpa [marks, bys] using hown, ⟨rfl, rfl, rfl, Nat.le_refl _, fun _ _ _ => rfl⟩⟩
  case round =>
    obtain ⟨j, hj, rfl, rfl, hown', hg⟩ := hrel
    by_cases hlt : j < n
    · have hcy : ∃ v, wr.cell? ⟨g, j, none⟩ = some v := by
        rw [hown'.cellAt j (by omega)]
        exact ⟨_, List.getElem?_eq_getElem (by simp [bys, marks]; omega)⟩
      obtain ⟨v, hcy⟩ := hcy
      have hfr : wr.frozen? ⟨g, j, none⟩ = false := hown'.frozenAt j
      have R := hown'.stored j (.int .u8 ((k + j) % 256))
      rw [set_mid _ xs j _ (by simp [bys, marks]) (by omega)] at R
      have R1 := hid R
      clear R hown' hown
      go_wp2
      go_roundw
      case rel =>
        refine ⟨j + 1, by omega, by go_num, by go_num, ?_, grown_trans hg R1.out.2⟩
        rw [marks_succ, bys_append]
        exact R1.out.1
      case measure => simp [intOf]; omega
    · go_wp2
      go_ret
      obtain rfl : j = n := by omega
      rw [List.drop_eq_nil_of_le (by omega), List.append_nil] at hown'
      exact ⟨rfl, hown', hg⟩

set_option maxHeartbeats 800000 in
theorem markByteS_zero (ad : Option Addr) (cap : Nat) (k : Int) (w : World) :
    Calls Tryd.prog 13 #[.slice ad 0 cap, .int .i64 k] w fun e w' => e = .returned (.int .i64 k) ∧ w' = w := by
  go_enter Tryd.func13, Tryd.ntmps13
  go_wp2
  go_loopw [1, 5] (fun kk i wr => i = .int .i64 (0 : Nat) ∧ kk = .int .i64 k ∧ wr = w) (fun _ _ _ => 0)
  case atStart => exact ⟨rfl, rfl, rfl⟩
  case round =>
    obtain ⟨rfl, rfl, rfl⟩ := hrel
    go_wp2
    go_ret
    exact ⟨rfl, rfl⟩

theorem markByteS_any {base n : Nat} {v : Value} (k : Int) {xs : List Value} {w : World} (hn : n ≤ 2097152) (hk0 : 0 ≤ k) (hk1 : k ≤ 1000000000)
    (hown : w.ownsRow base 5 1 v n xs) :
    Calls Tryd.prog 13 #[v, .int .i64 k] w fun e w' =>
      e = .returned (.int .i64 (k + n)) ∧ w'.ownsRow base 5 1 v n (bys (marks k n)) ∧ w.grownBy w' v.ownBlock := by
  rcases hown.2 with ⟨rfl, rfl⟩ | ⟨g, cap, cur, rfl, _⟩
  · refine (markByteS_zero none 0 k w).mono fun e w' ⟨he, hw⟩ => ?_
    subst hw
    exact ⟨by rw [he]; simp, by simpa [marks, bys] using World.ownsRow_nil w' base 5 1, grown_refl _ _⟩
  · exact markByteS_pos base g n cap k xs w hn hk0 hk1 hown

set_option maxHeartbeats 800000 in
theorem heldByteS_pos (b off cap n : Nat) (k : Int) (w : World) (hn : n ≤ 2097152) (hk0 : 0 ≤ k) (hk1 : k ≤ 1000000000)
    (hc : ∀ i, i < n → w.cell? ⟨b, off + i, none⟩ = some (.int .u8 ((k + (i : Nat)) % 256))) :
    Calls Tryd.prog 14 #[.slice (some ⟨b, off, none⟩) n cap, .int .i64 k] w fun e w' => e = .returned (.int .i64 (k + n)) ∧ w' = w := by
  go_enter Tryd.func14, Tryd.ntmps14
  go_wp2
  go_loopw [1, 5] (fun kk i wr => ∃ j : Nat, j ≤ n ∧ i = .int .i64 j ∧ kk = .int .i64 (k + j) ∧ wr = w) (fun _ i _ => n - (intOf i).toNat)
  case atStart => exact ⟨0, Nat.zero_le _, rfl, by simp, rfl⟩
  case round =>
    obtain ⟨j, hj, rfl, rfl, rfl⟩ := hrel
    by_cases hlt : j < n
    · have h1 := hc j hlt
      go_wp2
      go_roundw
      case rel => exact ⟨j + 1, by omega, by go_num, by go_num, by first | trivial | rfl⟩
      case measure => simp [intOf]; omega
    · go_wp2
      go_ret
      obtain rfl : j = n := by omega
      exact ⟨rfl, rfl⟩

set_option maxHeartbeats 800000 in
theorem heldByteS_zero (ad : Option Addr) (cap : Nat) (k : Int) (w : World) :
    Calls Tryd.prog 14 #[.slice ad 0 cap, .int .i64 k] w fun e w' => e = .returned (.int .i64 k) ∧ w' = w := by
  go_enter Tryd.func14, Tryd.ntmps14
  go_wp2
  go_loopw [1, 5] (fun kk i wr => i = .int .i64 (0 : Nat) ∧ kk = .int .i64 k ∧ wr = w) (fun _ _ _ => 0)
  case atStart => exact ⟨rfl, rfl, rfl⟩
  case round =>
    obtain ⟨rfl, rfl, rfl⟩ := hrel
    go_wp2
    go_ret
    exact ⟨rfl, rfl⟩

theorem heldByteS_any {ad : Option Addr} {n : Nat} (cap : Nat) (k : Int) {w : World} (h : Reads w ad n (marks k n)) (hn : n ≤ 2097152) (hk0 : 0 ≤ k) (hk1 : k ≤ 1000000000) :
    Calls Tryd.prog 14 #[.slice ad n cap, .int .i64 k] w fun e w' => e = .returned (.int .i64 (k + n)) ∧ w' = w := by
  rcases h.cells with rfl | ⟨b, off, rfl, hc⟩
  · refine (heldByteS_zero ad cap k w).mono fun e w' ⟨he, hw⟩ => ⟨by rw [he]; simp, hw⟩
  · exact heldByteS_pos b off cap n k w hn hk0 hk1 fun i hi => by rw [hc i hi, marks_at k n i hi]
end Go.Proofs.YtoppccfgcccijaaDoor
/- Floats of 64 bits, by what they are worth: the number of least floats in each (its 'wval'), and what sums, differences, products and halves give where the result is exact. No statement of its own; no conditions. -/

namespace Go.Proofs.YtoppccfgcccijaaDoor
open Ieee

/-- How many of the least float a float is worth. -/
def wval (r : Nat) : Nat := if r < 2 ^ 52 then r else (2 ^ 52 + r % 2 ^ 52) * 2 ^ (r / 2 ^ 52 - 1)
/-- The float that is worth so many. -/
def rg (v : Nat) : Nat := (v.log2 - 52) * 2 ^ 52 + v / 2 ^ (v.log2 - 52)

theorem log2_mul_pow (m k : Nat) (h : 0 < m) : (m * 2 ^ k).log2 = m.log2 + k := by
  have hm : m ≠ 0 := by omega
  have h1 := Nat.log2_self_le hm
  have h2 := Nat.lt_log2_self (n := m)
  have hp : 0 < 2 ^ k := Nat.two_pow_pos k
  refine (Nat.log2_eq_iff (Nat.mul_ne_zero hm (by omega))).2 ⟨?_, ?_⟩
  · rw [Nat.pow_add]; exact Nat.mul_le_mul_right _ h1
  · rw [show m.log2 + k + 1 = (m.log2 + 1) + k by omega, Nat.pow_add]; exact Nat.mul_lt_mul_of_pos_right h2 hp

theorem cut_even (s : Bool) (q d : Nat) : Toward.even.cut s (q * 2 ^ d) d = q := by
  have hp : 0 < 2 ^ d := Nat.two_pow_pos d
  by_cases hq : q = 0
  · subst hq
    have : 0 < 1 <<< min d 2 := by rw [Nat.one_shiftLeft]; exact Nat.two_pow_pos _
    simp only [Toward.cut, Nat.zero_mul, Nat.log2_zero, Nat.zero_add, Nat.zero_div, Nat.zero_mod, Nat.mul_zero]
    have h1 : ¬ (1 <<< min d 2 < 0) := by omega
    have h2 : ((1 <<< min d 2) == 0) = false := beq_eq_false_iff_ne.2 (by omega)
    simp [h2]
  · have hl := log2_mul_pow q d (by omega)
    have hm : min d ((q * 2 ^ d).log2 + 2) = d := by omega
    simp only [Toward.cut, hm, Nat.one_shiftLeft]
    rw [Nat.mul_div_cancel _ hp, Nat.mul_mod_left]
    have h2 : ((2 ^ d) == 2 * 0) = false := beq_eq_false_iff_ne.2 (by omega)
    simp [h2]

theorem cut_zero (s : Bool) (n d : Nat) : Toward.zero.cut s n d = n / 2 ^ d := by
  simp only [Toward.cut, Nat.one_shiftLeft, Bool.toNat_false, Nat.add_zero]
  by_cases h : d ≤ n.log2 + 2
  · rw [Nat.min_eq_left h]
  · have h1 : n < 2 ^ (n.log2 + 1) := Nat.lt_log2_self
    have h2 : 2 ^ (n.log2 + 1) ≤ 2 ^ (n.log2 + 2) := Nat.pow_le_pow_right (by omega) (by omega)
    have h3 : 2 ^ (n.log2 + 2) ≤ 2 ^ d := Nat.pow_le_pow_right (by omega) (by omega)
    rw [Nat.min_eq_right (by omega), Nat.div_eq_of_lt (by omega), Nat.div_eq_of_lt (by omega)]

theorem lp : double.leastPlace = -1074 := by decide
theorem fb : double.fractionBits = 52 := rfl
theorem bin : double.binade = 2 ^ 52 := rfl
theorem infR : double.infRung = 2047 * 2 ^ 52 := by decide
theorem sw : double.signWeight = 2 ^ 63 := rfl

theorem rg_zero : rg 0 = 0 := by decide

/-- A number that is worth v whole least floats, v of at most 53 digits and noughts, is just that float. -/
theorem nearest_rg (s : Bool) (m : Nat) (p : Int) (v : Nat) (h : m * 2 ^ (p + 1074).toNat = v * 2 ^ (-1074 - p).toNat) (hd : 2 ^ (v.log2 - 52) ∣ v) :
    double.nearest s m p = double.word s (min (rg v) (2047 * 2 ^ 52)) := by
  by_cases hm : m = 0
  · subst hm
    have hp : 0 < 2 ^ (-1074 - p).toNat := Nat.two_pow_pos _
    have hv : v = 0 := by
      rw [Nat.zero_mul] at h
      rcases Nat.mul_eq_zero.1 h.symm with h | h
      · exact h
      · omega
    subst hv
    rw [rg_zero]
    simp [Format.nearest]
  · have hv : 0 < v := by
      rcases Nat.eq_zero_or_pos v with rfl | h0
      · rw [Nat.zero_mul] at h
        rcases Nat.mul_eq_zero.1 h with h | h
        · exact absurd h hm
        · have := Nat.two_pow_pos (p + 1074).toNat; omega
      · exact h0
    have hl : m.log2 + (p + 1074).toNat = v.log2 + (-1074 - p).toNat := by
      rw [← log2_mul_pow m _ (by omega), ← log2_mul_pow v _ hv, h]
    obtain ⟨q, hq⟩ := hd
    have hrg : rg v = (v.log2 - 52) * 2 ^ 52 + q := by
      unfold rg
      have hp : 0 < 2 ^ (v.log2 - 52) := Nat.two_pow_pos _
      have : v / 2 ^ (v.log2 - 52) = q := by
        rw [Nat.div_eq_iff_eq_mul_left hp ⟨q, hq⟩, Nat.mul_comm]
        exact hq
      rw [this]
    have hK : max (p + (m.log2 : Int) - (52 : Nat)) (-1074) = ((v.log2 - 52 : Nat) : Int) - 1074 := by omega
    rw [hrg]
    have hkept : Toward.even.cut s (m <<< (p - (((v.log2 - 52 : Nat) : Int) - 1074)).toNat) ((((v.log2 - 52 : Nat) : Int) - 1074) - p).toNat = q := by
      clear hK hrg hl
      generalize v.log2 - 52 = K at hq
      rw [hq] at h
      by_cases ht : (K : Int) ≤ p + 1074
      · obtain ⟨t, ht'⟩ : ∃ t : Nat, p + 1074 = K + t := ⟨(p + 1074 - K).toNat, by omega⟩
        have e1 : (p - ((K : Int) - 1074)).toNat = t := by omega
        have e2 : (((K : Int) - 1074) - p).toNat = 0 := by omega
        have e3 : (p + 1074).toNat = K + t := by omega
        have e4 : (-1074 - p).toNat = 0 := by omega
        rw [e3, e4, Nat.pow_zero, Nat.mul_one, Nat.pow_add] at h
        rw [e1, e2, Nat.shiftLeft_eq]
        have hp : 0 < 2 ^ K := Nat.two_pow_pos _
        have : m * 2 ^ t = q := by
          apply Nat.eq_of_mul_eq_mul_left hp
          rw [← h, ← Nat.mul_assoc, Nat.mul_comm (2 ^ K) m, Nat.mul_assoc]
        rw [this]
        have := cut_even s q 0
        rwa [Nat.pow_zero, Nat.mul_one] at this
      · obtain ⟨t, ht'⟩ : ∃ t : Nat, (K : Int) = p + 1074 + t := ⟨(K - (p + 1074)).toNat, by omega⟩
        have e1 : (p - ((K : Int) - 1074)).toNat = 0 := by omega
        have e2 : (((K : Int) - 1074) - p).toNat = t := by omega
        rw [e1, e2, Nat.shiftLeft_eq, Nat.pow_zero, Nat.mul_one]
        have : m = q * 2 ^ t := by
          by_cases hA : 0 ≤ p + 1074
          · obtain ⟨A, hA'⟩ : ∃ A : Nat, p + 1074 = A := ⟨(p + 1074).toNat, by omega⟩
            have e3 : (p + 1074).toNat = A := by omega
            have e4 : (-1074 - p).toNat = 0 := by omega
            have e5 : K = A + t := by omega
            rw [e3, e4, Nat.pow_zero, Nat.mul_one, e5, Nat.pow_add] at h
            have hp : 0 < 2 ^ A := Nat.two_pow_pos _
            apply Nat.eq_of_mul_eq_mul_right hp
            rw [h, Nat.mul_comm q, Nat.mul_assoc, Nat.mul_assoc, Nat.mul_comm, Nat.mul_assoc]
          · obtain ⟨A, hA'⟩ : ∃ A : Nat, p + 1074 = -A := ⟨(-(p + 1074)).toNat, by omega⟩
            have e3 : (p + 1074).toNat = 0 := by omega
            have e4 : (-1074 - p).toNat = A := by omega
            have e5 : t = K + A := by omega
            rw [e3, e4, Nat.pow_zero, Nat.mul_one] at h
            rw [h, e5, Nat.pow_add, Nat.mul_comm (2 ^ K) q, Nat.mul_assoc]
        rw [this, cut_even]
    simp only [Format.nearest, hm, if_false, lp, fb, bin, infR]
    rw [hK, hkept]
    have e : ((((v.log2 - 52 : Nat) : Int) - 1074) - -1074).toNat = v.log2 - 52 := by omega
    rw [e]

/-- v is worth a float: it has at most 53 digits and noughts behind them, and isn't too great. -/
def Rep (v : Nat) : Prop := rg v < 2047 * 2 ^ 52 ∧ wval (rg v) = v ∧ 2 ^ (v.log2 - 52) ∣ v

theorem rep_of (c j : Nat) (hc : c < 2 ^ 53) (hv : j ≤ 2045) : Rep (c * 2 ^ j) := by
  by_cases h0 : c = 0
  · subst h0
    rw [Nat.zero_mul]
    refine ⟨by rw [rg_zero]; decide, by rw [rg_zero]; decide, ⟨0, by simp⟩⟩
  · have hl := log2_mul_pow c j (by omega)
    have hcl : c.log2 < 53 := (Nat.log2_lt h0).2 hc
    have hdvd : 2 ^ ((c * 2 ^ j).log2 - 52) ∣ c * 2 ^ j := Nat.dvd_trans (Nat.pow_dvd_pow 2 (by omega)) ⟨c, Nat.mul_comm _ _⟩
    have hpos : c * 2 ^ j ≠ 0 := Nat.mul_ne_zero h0 (by have := Nat.two_pow_pos j; omega)
    generalize c * 2 ^ j = v at *
    have hL := Nat.log2_self_le hpos
    have hU := Nat.lt_log2_self (n := v)
    have hLv : v.log2 < 2098 := by omega
    unfold Rep rg
    by_cases hs : v.log2 ≤ 52
    · have e : v.log2 - 52 = 0 := by omega
      rw [e] at hdvd ⊢
      rw [Nat.pow_zero, Nat.zero_mul, Nat.zero_add, Nat.div_one]
      have h53 : v < 2 ^ 53 := Nat.lt_of_lt_of_le hU (Nat.pow_le_pow_right (by omega) (by omega))
      refine ⟨by omega, ?_, ⟨v, by omega⟩⟩
      unfold wval
      split
      · rfl
      · have : v / 2 ^ 52 = 1 := by omega
        rw [this]
        omega
    · obtain ⟨K, hK⟩ : ∃ K, v.log2 = 52 + K := ⟨v.log2 - 52, by omega⟩
      have e : v.log2 - 52 = K := by omega
      rw [e] at hdvd ⊢
      rw [hK] at hL hU
      obtain ⟨q, rfl⟩ := hdvd
      have hp : 0 < 2 ^ K := Nat.two_pow_pos _
      rw [Nat.mul_div_cancel_left _ hp]
      have hq1 : 2 ^ 52 ≤ q := by
        rw [Nat.pow_add, Nat.mul_comm] at hL
        exact Nat.le_of_mul_le_mul_left hL hp
      have hq2 : q < 2 ^ 53 := by
        rw [show 52 + K + 1 = K + 53 by omega, Nat.pow_add] at hU
        exact Nat.lt_of_mul_lt_mul_left hU
      have hKl : K ≤ 2045 := by omega
      refine ⟨by omega, ?_, ⟨q, rfl⟩⟩
      unfold wval
      have h1 : ¬ (K * 2 ^ 52 + q < 2 ^ 52) := by omega
      have h2 : (K * 2 ^ 52 + q) / 2 ^ 52 = K + 1 := by omega
      have h3 : (K * 2 ^ 52 + q) % 2 ^ 52 = q - 2 ^ 52 := by omega
      have h4 : 2 ^ 52 + (q - 2 ^ 52) = q := by omega
      rw [if_neg h1, h2, h3, h4, Nat.add_sub_cancel, Nat.mul_comm]

theorem wval_lt (a b : Nat) (h : a < b) : wval a < wval b := by
  unfold wval
  by_cases hb : b < 2 ^ 52
  · rw [if_pos hb, if_pos (by omega)]
    exact h
  · rw [if_neg hb]
    have hm : a % 2 ^ 52 < 2 ^ 52 := Nat.mod_lt _ (by omega)
    by_cases ha : a < 2 ^ 52
    · rw [if_pos ha]
      have hp : 0 < 2 ^ (b / 2 ^ 52 - 1) := Nat.two_pow_pos _
      have : (2 ^ 52 + b % 2 ^ 52) * 1 ≤ (2 ^ 52 + b % 2 ^ 52) * 2 ^ (b / 2 ^ 52 - 1) := Nat.mul_le_mul_left _ hp
      omega
    · rw [if_neg ha]
      have hab : a / 2 ^ 52 ≤ b / 2 ^ 52 := Nat.div_le_div_right (by omega)
      by_cases he : a / 2 ^ 52 = b / 2 ^ 52
      · rw [he]
        exact Nat.mul_lt_mul_of_pos_right (by omega) (Nat.two_pow_pos _)
      · obtain ⟨t, ht⟩ : ∃ t, b / 2 ^ 52 - 1 = (a / 2 ^ 52 - 1) + 1 + t := ⟨b / 2 ^ 52 - 1 - (a / 2 ^ 52 - 1) - 1, by omega⟩
        rw [ht, Nat.pow_add, Nat.pow_succ (n := 2) (m := a / 2 ^ 52 - 1)]
        have hp : 0 < 2 ^ (a / 2 ^ 52 - 1) := Nat.two_pow_pos _
        have ht' : 0 < 2 ^ t := Nat.two_pow_pos _
        generalize 2 ^ (a / 2 ^ 52 - 1) = P at *
        calc (2 ^ 52 + a % 2 ^ 52) * P < (2 ^ 52 * 2) * P := Nat.mul_lt_mul_of_pos_right (by omega) hp
          _ = 2 ^ 52 * (P * 2) := by rw [Nat.mul_assoc, Nat.mul_comm 2 P]
          _ ≤ 2 ^ 52 * (P * 2 * 2 ^ t) := Nat.mul_le_mul_left _ (Nat.le_mul_of_pos_right _ ht')
          _ ≤ (2 ^ 52 + b % 2 ^ 52) * (P * 2 * 2 ^ t) := Nat.mul_le_mul_right _ (by omega)

theorem wval_inj (a b : Nat) (h : wval a = wval b) : a = b := by
  rcases Nat.lt_trichotomy a b with h' | h' | h'
  · have := wval_lt a b h'; omega
  · exact h'
  · have := wval_lt b a h'; omega

/-- A finite float as 53 digits and noughts. -/
theorem wval_form (r : Nat) (h : r < 2047 * 2 ^ 52) : ∃ c j, c < 2 ^ 53 ∧ wval r = c * 2 ^ j ∧ j ≤ 2045 := by
  unfold wval
  have hm : r % 2 ^ 52 < 2 ^ 52 := Nat.mod_lt _ (by omega)
  split
  · exact ⟨r, 0, by omega, by rw [Nat.pow_zero, Nat.mul_one], by omega⟩
  · exact ⟨_, _, by omega, rfl, by omega⟩

theorem rep_wval (r : Nat) (h : r < 2047 * 2 ^ 52) : Rep (wval r) := by
  obtain ⟨c, j, hc, he, hv⟩ := wval_form r h
  rw [he]
  exact rep_of c j hc hv

theorem rg_wval (r : Nat) (h : r < 2047 * 2 ^ 52) : rg (wval r) = r := wval_inj _ _ (rep_wval r h).2.1

/-- What a finite float is read as. -/
theorem read_word (s : Bool) (r : Nat) (h : r < 2047 * 2 ^ 52) : ∃ m : Nat, ∃ k : Nat, double.read (double.word s r) = .number s m ((k : Int) - 1074) ∧ m * 2 ^ k = wval r ∧ m < 2 ^ 53 := by
  have h63 : r < 2 ^ 63 := by omega
  have hs : (double.word s r / double.signWeight % 2 == 1) = s := by
    unfold Format.word
    rw [sw]
    cases s
    · rw [if_neg (by simp)]
      have : r / 2 ^ 63 = 0 := by omega
      rw [this]; rfl
    · rw [if_pos rfl]
      have : (2 ^ 63 + r) / 2 ^ 63 % 2 = 1 := by omega
      rw [this]; rfl
  have hr : double.word s r % double.signWeight = r := by
    unfold Format.word
    rw [sw]
    cases s
    · rw [if_neg (by simp)]; omega
    · rw [if_pos rfl]; omega
  simp only [Format.read, hs, hr, bin, infR, lp]
  have hm : r % 2 ^ 52 < 2 ^ 52 := Nat.mod_lt _ (by omega)
  by_cases h1 : r < 2 ^ 52
  · rw [if_pos h1]
    refine ⟨r, 0, rfl, ?_, by omega⟩
    rw [wval, if_pos h1, Nat.pow_zero, Nat.mul_one]
  · rw [if_neg h1, if_pos h]
    refine ⟨2 ^ 52 + r % 2 ^ 52, r / 2 ^ 52 - 1, ?_, ?_, ?_⟩
    · congr 1
    · rw [wval, if_neg h1]
    · omega

/-- A number that is just worth the float r is written as r. -/
theorem write_word (s : Bool) (m : Nat) (p : Int) (r : Nat) (hr : r < 2047 * 2 ^ 52) (h : m * 2 ^ (p + 1074).toNat = wval r * 2 ^ (-1074 - p).toNat) : double.write (.number s m p) = double.word s r := by
  have hR := rep_wval r hr
  have := nearest_rg s m p (wval r) h hR.2.2
  rw [rg_wval r hr, Nat.min_eq_left (by omega)] at this
  exact this

theorem shift (M V A B : Nat) (h : M * 2 ^ A = V * 2 ^ B) : M * 2 ^ ((A : Int) - B).toNat = V * 2 ^ ((B : Int) - A).toNat := by
  by_cases hAB : B ≤ A
  · obtain ⟨t, rfl⟩ : ∃ t, A = B + t := ⟨A - B, by omega⟩
    have e1 : (((B + t : Nat) : Int) - B).toNat = t := by omega
    have e2 : ((B : Int) - ((B + t : Nat) : Int)).toNat = 0 := by omega
    rw [e1, e2, Nat.pow_zero, Nat.mul_one]
    have hp : 0 < 2 ^ B := Nat.two_pow_pos _
    apply Nat.eq_of_mul_eq_mul_right hp
    rw [← h, Nat.pow_add, Nat.mul_assoc, Nat.mul_comm (2 ^ t)]
  · obtain ⟨t, rfl⟩ : ∃ t, B = A + t := ⟨B - A, by omega⟩
    have e1 : (((A + t : Nat) : Int) - A).toNat = t := by omega
    have e2 : ((A : Int) - ((A + t : Nat) : Int)).toNat = 0 := by omega
    rw [e1, e2, Nat.pow_zero, Nat.mul_one]
    have hp : 0 < 2 ^ A := Nat.two_pow_pos _
    apply Nat.eq_of_mul_eq_mul_right hp
    rw [h, Nat.pow_add, Nat.mul_assoc, Nat.mul_comm (2 ^ A)]

/-- The same, by two powers. -/
theorem write_by (s : Bool) (m : Nat) (p : Int) (r A B : Nat) (hr : r < 2047 * 2 ^ 52) (hp : p + 1074 = (A : Int) - B) (h : m * 2 ^ A = wval r * 2 ^ B) : double.write (.number s m p) = double.word s r := by
  refine write_word s m p r hr ?_
  rw [show (-1074 - p : Int) = (B : Int) - A by omega, hp]
  exact shift _ _ _ _ h

theorem mul_exact (s t : Bool) (a b c : Nat) (ha : a < 2047 * 2 ^ 52) (hb : b < 2047 * 2 ^ 52) (hc : c < 2047 * 2 ^ 52) (h : wval a * wval b = wval c * 2 ^ 1074) :
    double.mul (double.word s a) (double.word t b) = some (double.word (s ^^ t) c) := by
  obtain ⟨m, k, e1, v1, -⟩ := read_word s a ha
  obtain ⟨n, l, e2, v2, -⟩ := read_word t b hb
  rw [Format.mul, e1, e2]
  simp only [Datum.product, Option.map_some]
  rw [write_by (s ^^ t) _ _ c (k + l) 1074 hc (by omega)]
  rw [← h, ← v1, ← v2, Nat.pow_add, Nat.mul_assoc, Nat.mul_assoc, ← Nat.mul_assoc n, ← Nat.mul_assoc (2 ^ k), Nat.mul_comm (2 ^ k) n]

theorem shl_to (m k b : Nat) (h : b ≤ k) : m <<< (((k : Int) - 1074) - ((b : Int) - 1074)).toNat * 2 ^ b = m * 2 ^ k := by
  rw [show (((k : Int) - 1074) - ((b : Int) - 1074)).toNat = k - b by omega, Nat.shiftLeft_eq, Nat.mul_assoc, ← Nat.pow_add, Nat.sub_add_cancel h]

theorem min_place (k l : Nat) : min ((k : Int) - 1074) ((l : Int) - 1074) = ((min k l : Nat) : Int) - 1074 := by omega

theorem add_exact (a b c : Nat) (ha : a < 2047 * 2 ^ 52) (hb : b < 2047 * 2 ^ 52) (hc : c < 2047 * 2 ^ 52) (h : wval a + wval b = wval c) :
    double.add a b = some c := by
  obtain ⟨m, k, e1, v1, -⟩ := read_word false a ha
  obtain ⟨n, l, e2, v2, -⟩ := read_word false b hb
  have ea : double.word false a = a := rfl
  have eb : double.word false b = b := rfl
  have ec : double.word false c = c := rfl
  rw [ea] at e1
  rw [eb] at e2
  rw [Format.add, e1, e2]
  simp only [Datum.sum, Option.map_some, min_place, signed, Bool.false_eq_true, if_false, Bool.and_self]
  have h1 := shl_to m k (min k l) (Nat.min_le_left _ _)
  have h2 := shl_to n l (min k l) (Nat.min_le_right _ _)
  generalize m <<< (((k : Int) - 1074) - (((min k l : Nat) : Int) - 1074)).toNat = X at *
  generalize n <<< (((l : Int) - 1074) - (((min k l : Nat) : Int) - 1074)).toNat = Y at *
  have hs : (if (X : Int) + Y = 0 then false else decide ((X : Int) + Y < 0)) = false := by
    split
    · rfl
    · exact decide_eq_false (by omega)
  have hn : ((X : Int) + Y).natAbs = X + Y := by omega
  rw [hs, hn, write_by false _ _ c (min k l) 0 hc (by omega), ec]
  rw [Nat.pow_zero, Nat.mul_one, Nat.add_mul, h1, h2, ← h, v1, v2]

theorem sub_exact (a b c : Nat) (ha : a < 2047 * 2 ^ 52) (hb : b < 2047 * 2 ^ 52) (hc : c < 2047 * 2 ^ 52) (h : wval a = wval b + wval c) :
    double.sub a b = some c := by
  obtain ⟨m, k, e1, v1, -⟩ := read_word false a ha
  obtain ⟨n, l, e2, v2, -⟩ := read_word false b hb
  have ea : double.word false a = a := rfl
  have eb : double.word false b = b := rfl
  have ec : double.word false c = c := rfl
  rw [ea] at e1
  rw [eb] at e2
  rw [Format.sub, e1, e2]
  simp only [Datum.opposite, Datum.sum, Option.map_some, min_place, signed, Bool.false_eq_true, if_false, Bool.not_false, if_true, Bool.and_true]
  have h1 := shl_to m k (min k l) (Nat.min_le_left _ _)
  have h2 := shl_to n l (min k l) (Nat.min_le_right _ _)
  generalize m <<< (((k : Int) - 1074) - (((min k l : Nat) : Int) - 1074)).toNat = X at *
  generalize n <<< (((l : Int) - 1074) - (((min k l : Nat) : Int) - 1074)).toNat = Y at *
  have hp : 0 < 2 ^ min k l := Nat.two_pow_pos _
  have hXY : Y ≤ X := by
    apply Nat.le_of_mul_le_mul_right _ hp
    omega
  have hs : (if (X : Int) + -(Y : Int) = 0 then false else decide ((X : Int) + -(Y : Int) < 0)) = false := by
    split
    · rfl
    · exact decide_eq_false (by omega)
  have hn : ((X : Int) + -(Y : Int)).natAbs = X - Y := by omega
  rw [hs, hn, write_by false _ _ c (min k l) 0 hc (by omega), ec]
  rw [Nat.pow_zero, Nat.mul_one, Nat.sub_mul, h1, h2]
  omega

theorem half_exact (s : Bool) (d a c q : Nat) (hd : double.read d = .number false (2 ^ 52) ((q : Int) - 52)) (ha : a < 2047 * 2 ^ 52) (hc : c < 2047 * 2 ^ 52) (h : wval a = wval c * 2 ^ q) :
    double.div (double.word s a) d = some (double.word s c) := by
  obtain ⟨m, k, e1, v1, hm⟩ := read_word s a ha
  have hl : m.log2 ≤ 52 := by
    by_cases h0 : m = 0
    · subst h0; decide
    · have := (Nat.log2_lt h0).2 hm
      omega
  have h52 : (2 ^ 52 : Nat).log2 = 52 := by decide
  have hn0 : ¬ ((2 : Nat) ^ 52 = 0) := by decide
  rw [Format.div, e1, hd]
  simp only [Datum.quotient, fb, hn0, if_false, h52, Option.map_some, Bool.xor_false]
  obtain ⟨t, ht⟩ : ∃ t, 52 + 2 + 52 - m.log2 = 52 + t := ⟨52 + 2 - m.log2, by omega⟩
  rw [ht]
  have hdiv : m <<< (52 + t) = (m * 2 ^ t) * 2 ^ 52 := by rw [Nat.shiftLeft_eq, Nat.pow_add, Nat.mul_comm (2 ^ 52), Nat.mul_assoc]
  rw [hdiv, Nat.mul_div_cancel _ (by decide), Nat.mul_mod_left]
  simp only [bne_self_eq_false, Bool.toNat_false, Nat.add_zero]
  rw [write_by s _ _ c k (q + t + 1) hc (by omega)]
  have e : 2 * (m * 2 ^ t) * 2 ^ k = (m * 2 ^ k) * 2 ^ t * 2 := by ac_rfl
  rw [e, v1, h, Nat.pow_succ, Nat.pow_add]
  ac_rfl

/-- Cut towards zero. -/
theorem toInt_exact (a : Nat) (ha : a < 2047 * 2 ^ 52) (n : Nat) (h : wval a = n * 2 ^ 1074) : (double.read a).toInt .zero = some (n : Int) := by
  obtain ⟨m, k, e1, v1, hm⟩ := read_word false a ha
  have ea : double.word false a = a := rfl
  rw [ea] at e1
  rw [e1]
  simp only [Datum.toInt, Datum.integral, signed, Bool.false_eq_true, if_false, Nat.shiftLeft_zero, cut_zero]
  rw [← v1] at h
  have := shift _ _ _ _ h
  rw [Nat.shiftLeft_eq]
  have e1 : (k : Int) - ((1074 : Nat) : Int) = (k : Int) - 1074 := rfl
  have e2 : ((1074 : Nat) : Int) - (k : Int) = -((k : Int) - 1074) := by omega
  rw [e1, e2] at this
  rw [this, Nat.mul_div_cancel _ (Nat.two_pow_pos _)]

/-- A word by its sign and its place. -/
theorem word_of (x : Nat) (h : x < 2 ^ 64) : ∃ s r, r < 2 ^ 63 ∧ x = double.word s r := by
  by_cases hx : x < 2 ^ 63
  · exact ⟨false, x, hx, rfl⟩
  · exact ⟨true, x - 2 ^ 63, by omega, by unfold Format.word; rw [sw, if_pos rfl]; omega⟩

theorem sign_of (s : Bool) (r : Nat) (h : r < 2 ^ 63) : (double.word s r / double.signWeight % 2 == 1) = s := by
  unfold Format.word
  rw [sw]
  cases s
  · rw [if_neg (by simp)]
    have : r / 2 ^ 63 = 0 := by omega
    rw [this]; rfl
  · rw [if_pos rfl]
    have : (2 ^ 63 + r) / 2 ^ 63 % 2 = 1 := by omega
    rw [this]; rfl
theorem place_of (s : Bool) (r : Nat) (h : r < 2 ^ 63) : double.word s r % double.signWeight = r := by
  unfold Format.word
  rw [sw]
  cases s
  · rw [if_neg (by simp)]; omega
  · rw [if_pos rfl]; omega
theorem read_inf (s : Bool) : double.read (double.word s (2047 * 2 ^ 52)) = .infinity s := by cases s <;> decide
theorem read_nan (s : Bool) (r : Nat) (h : 2047 * 2 ^ 52 < r) (h' : r < 2 ^ 63) : double.read (double.word s r) = .nan s (r - 2047 * 2 ^ 52) := by
  simp only [Format.read, sign_of s r h', place_of s r h', bin, infR]
  rw [if_neg (by omega), if_neg (by omega), if_neg (by omega)]

/-- Where a float stands among all. -/
def key (s : Bool) (r : Nat) : Int := if s then -(r : Int) else r
def sv (s : Bool) (r : Nat) : Int := if s then -(wval r : Int) else wval r

theorem wval_pos (a : Nat) (h : 0 < a) : 0 < wval a := by
  have := wval_lt 0 a h
  omega
theorem wval_zero : wval 0 = 0 := by decide

theorem sv_lt (s t : Bool) (a b : Nat) : sv s a < sv t b ↔ key s a < key t b := by
  have hz := wval_zero
  have h1 : a < b ↔ wval a < wval b := ⟨wval_lt a b, fun h => by
    rcases Nat.lt_trichotomy a b with h' | h' | h'
    · exact h'
    · subst h'; omega
    · have := wval_lt b a h'; omega⟩
  have h2 : b < a ↔ wval b < wval a := ⟨wval_lt b a, fun h => by
    rcases Nat.lt_trichotomy a b with h' | h' | h'
    · have := wval_lt a b h'; omega
    · subst h'; omega
    · exact h'⟩
  have h3 : 0 < a ↔ 0 < wval a := ⟨wval_pos a, fun h => by
    rcases Nat.eq_zero_or_pos a with rfl | h'
    · omega
    · exact h'⟩
  have h4 : 0 < b ↔ 0 < wval b := ⟨wval_pos b, fun h => by
    rcases Nat.eq_zero_or_pos b with rfl | h'
    · omega
    · exact h'⟩
  cases s <;> cases t <;> simp only [sv, key, if_true, Bool.false_eq_true, if_false] <;> omega

theorem cmp_eq (x y x' y' : Int) (h1 : x < y ↔ x' < y') (h2 : y < x ↔ y' < x') : compare x y = compare x' y' := by
  simp only [compare, compareOfLessAndEq]
  by_cases h : x < y
  · rw [if_pos h, if_pos (h1.1 h)]
  · rw [if_neg h, if_neg (fun h' => h (h1.2 h'))]
    by_cases e : x = y
    · rw [if_pos e, if_pos (by omega)]
    · rw [if_neg e, if_neg (by omega)]

theorem signed_mul (s : Bool) (m k b : Nat) (h : b ≤ k) : signed s m (((k : Int) - 1074) - ((b : Int) - 1074)).toNat * (2 ^ b : Nat) = if s then -((m * 2 ^ k : Nat) : Int) else ((m * 2 ^ k : Nat) : Int) := by
  have := shl_to m k b h
  unfold signed
  cases s
  · simp only [Bool.false_eq_true, if_false]
    rw [← Int.natCast_mul, this]
  · simp only [if_true]
    rw [Int.neg_mul, ← Int.natCast_mul, this]

theorem order_key (s t : Bool) (a b : Nat) (ha : a ≤ 2047 * 2 ^ 52) (hb : b ≤ 2047 * 2 ^ 52) : double.order (double.word s a) (double.word t b) = some (compare (key s a) (key t b)) := by
  unfold Format.order
  by_cases ha' : a = 2047 * 2 ^ 52
  · subst ha'
    rw [read_inf]
    by_cases hb' : b = 2047 * 2 ^ 52
    · subst hb'
      rw [read_inf]
      cases s <;> cases t <;> rfl
    · obtain ⟨n, l, e2, v2, -⟩ := read_word t b (by omega)
      rw [e2]
      simp only [Datum.order]
      congr 1
      cases s <;> cases t <;> simp only [key, if_true, Bool.false_eq_true, if_false, compare, compareOfLessAndEq] <;> (first | (rw [if_pos (by omega)]; done) | (rw [if_neg (by omega), if_neg (by omega)]))
  · obtain ⟨m, k, e1, v1, -⟩ := read_word s a (by omega)
    rw [e1]
    by_cases hb' : b = 2047 * 2 ^ 52
    · subst hb'
      rw [read_inf]
      simp only [Datum.order]
      congr 1
      cases s <;> cases t <;> simp only [key, if_true, Bool.false_eq_true, if_false, compare, compareOfLessAndEq] <;> (first | (rw [if_pos (by omega)]; done) | (rw [if_neg (by omega), if_neg (by omega)]))
    · obtain ⟨n, l, e2, v2, -⟩ := read_word t b (by omega)
      rw [e2]
      simp only [Datum.order, min_place]
      congr 1
      have h1 := signed_mul s m k (min k l) (Nat.min_le_left _ _)
      have h2 := signed_mul t n l (min k l) (Nat.min_le_right _ _)
      rw [v1] at h1
      rw [v2] at h2
      generalize signed s m (((k : Int) - 1074) - (((min k l : Nat) : Int) - 1074)).toNat = X at *
      generalize signed t n (((l : Int) - 1074) - (((min k l : Nat) : Int) - 1074)).toNat = Y at *
      have hp : (0 : Int) < ((2 ^ min k l : Nat) : Int) := Int.natCast_pos.2 (Nat.two_pow_pos _)
      generalize ((2 ^ min k l : Nat) : Int) = P at *
      have h1' : X * P = sv s a := h1
      have h2' : Y * P = sv t b := h2
      refine cmp_eq _ _ _ _ ?_ ?_
      · rw [← sv_lt, ← h1', ← h2']
        exact ⟨fun h => Int.mul_lt_mul_of_pos_right h hp, fun h => Int.lt_of_mul_lt_mul_right h (by omega)⟩
      · rw [← sv_lt, ← h1', ← h2']
        exact ⟨fun h => Int.mul_lt_mul_of_pos_right h hp, fun h => Int.lt_of_mul_lt_mul_right h (by omega)⟩

theorem order_nan_l (s : Bool) (r y : Nat) (h : 2047 * 2 ^ 52 < r) (h' : r < 2 ^ 63) : double.order (double.word s r) y = none := by
  unfold Format.order
  rw [read_nan s r h h']
  rfl
theorem order_nan_r (s : Bool) (r y : Nat) (h : 2047 * 2 ^ 52 < r) (h' : r < 2 ^ 63) : double.order y (double.word s r) = none := by
  unfold Format.order
  rw [read_nan s r h h']
  cases double.read y <;> rfl
end Go.Proofs.YtoppccfgcccijaaDoor
/- Floats of 64 bits, by their bits: which are NaN, how two stand to each other, their ranks. No statement of its own; no conditions. -/

namespace Go.Proofs.YtoppccfgcccijaaDoor
open Ieee

/-- Whether bits are a NaN's. -/
def isN (x : Nat) : Bool := decide (9218868437227405312 < x % 9223372036854775808)
/-- Where a float that is no NaN stands among all. -/
def kx (x : Nat) : Int := if x < 9223372036854775808 then (x : Int) else 9223372036854775808 - x
/-- Its bits, all NaNs being one. -/
def fbits (x : Nat) : Nat := if isN x then 9221120237041090560 else x
/-- Its rank. -/
def frank (x : Nat) : Nat := if isN x then 18446744073709551615 else if x % 9223372036854775808 = 0 then 9223372036854775808 else if x < 9223372036854775808 then x + 9223372036854775808 else 18446744073709551615 - x

theorem isN_iff (x : Nat) : isN x = true ↔ 9218868437227405312 < x % 9223372036854775808 := by simp [isN]
theorem isN_not (x : Nat) : isN x = false ↔ x % 9223372036854775808 ≤ 9218868437227405312 := by simp [isN]

theorem word_pos (r : Nat) : double.word false r = r := rfl
theorem word_neg (r : Nat) : double.word true r = 9223372036854775808 + r := by unfold Format.word; rw [sw, if_pos rfl]

/-- A float by its sign and place. -/
theorem split_x (x : Nat) (h : x < 18446744073709551616) : ∃ s r, r < 9223372036854775808 ∧ x = double.word s r ∧ x % 9223372036854775808 = r ∧ kx x = key s r := by
  by_cases hx : x < 9223372036854775808
  · exact ⟨false, x, hx, rfl, by omega, by rw [kx, if_pos hx]; rfl⟩
  · refine ⟨true, x - 9223372036854775808, by omega, by rw [word_neg]; omega, by omega, ?_⟩
    rw [kx, if_neg hx, key, if_pos rfl]
    omega

theorem order_x (x y : Nat) (hx : x < 18446744073709551616) (hy : y < 18446744073709551616) (nx : isN x = false) (ny : isN y = false) : FloatKind.f64.format.order x y = some (compare (kx x) (kx y)) := by
  rw [isN_not] at nx ny
  obtain ⟨s, a, -, rfl, ea, ka⟩ := split_x x hx
  obtain ⟨t, b, -, rfl, eb, kb⟩ := split_x y hy
  rw [ka, kb]
  exact order_key s t a b (by omega) (by omega)
theorem order_l (x y : Nat) (hx : x < 18446744073709551616) (nx : isN x = true) : FloatKind.f64.format.order x y = none := by
  rw [isN_iff] at nx
  obtain ⟨s, a, h, rfl, ea, -⟩ := split_x x hx
  exact order_nan_l s a y (by omega) (by omega)
theorem order_r (x y : Nat) (hy : y < 18446744073709551616) (ny : isN y = true) : FloatKind.f64.format.order x y = none := by
  rw [isN_iff] at ny
  obtain ⟨s, a, h, rfl, ea, -⟩ := split_x y hy
  exact order_nan_r s a x (by omega) (by omega)

theorem order_lt (x y : Nat) (hx : x < 18446744073709551616) (hy : y < 18446744073709551616) (nx : isN x = false) (ny : isN y = false) (h : kx x < kx y) : FloatKind.f64.format.order x y = some .lt := by
  rw [order_x x y hx hy nx ny]
  congr 1
  simp only [compare, compareOfLessAndEq]
  rw [if_pos h]
theorem order_eq (x y : Nat) (hx : x < 18446744073709551616) (hy : y < 18446744073709551616) (nx : isN x = false) (ny : isN y = false) (h : kx x = kx y) : FloatKind.f64.format.order x y = some .eq := by
  rw [order_x x y hx hy nx ny]
  congr 1
  simp only [compare, compareOfLessAndEq]
  rw [if_neg (by omega), if_pos h]
theorem order_gt (x y : Nat) (hx : x < 18446744073709551616) (hy : y < 18446744073709551616) (nx : isN x = false) (ny : isN y = false) (h : kx y < kx x) : FloatKind.f64.format.order x y = some .gt := by
  rw [order_x x y hx hy nx ny]
  congr 1
  simp only [compare, compareOfLessAndEq]
  rw [if_neg (by omega), if_neg (by omega)]

theorem fbits_lt (x : Nat) (h : x < 18446744073709551616) : fbits x < 18446744073709551616 := by
  unfold fbits; split <;> omega
theorem frank_lt (x : Nat) (h : x < 18446744073709551616) : frank x < 18446744073709551616 := by
  unfold frank
  split
  · omega
  · split
    · omega
    · split <;> omega
end Go.Proofs.YtoppccfgcccijaaDoor
