/- Texts of this proof in one: Base Help Flo Flx Flv Fli Flw Flb Flq Flf Fsa Fll It1 It2 Al It3 It4 It5 It6 It7 It8 It9 Im1 Im2 Sb St Oc Ix Sq14 Hd14 Dk Oty Jt Pa Pb Pc Rk Rk2 Rk3 Ps. -/
import Derived.WalkKit
import Derived.WalkSpells
import Derived.Laws.CopyOwn
import Derived.Deep.Draws
import Derived.OpenShut
import Derived.Test.YtjcjoabblafboaaGreatRows
import Derived.Deep.QuietTactic
import Derived.BigQuiet
import Derived.Laws.FloatArith
import Derived.Test.YtjcjoabblafboaaGreatChecked
import Derived.WalkLawsBesides
import Derived.Laws.BitsAllLaws
import Derived.Laws.Externs
import Derived.KernelRfl
import Derived.Laws.Tables
import Derived.Laws.AppendOwnNone
import Derived.Deep.RegionHeld3
import Derived.Laws.BytesArg
import Derived.Laws.Cover1
import Derived.Shelf.SlSortCmp.WholeK
import Derived.Deep.SlicePairs
import Derived.Deep.Matrix
import Derived.Lib.SmallJoins
import Derived.Deep.AppendLies
/- Plain notions for the proofs of this seat: what a slice of bytes reads as, in a world; how that is kept. No statement of its own; no conditions. -/





namespace Go.Proofs.YtjcjoabblafboaaGreat
open Go.RowKit
def bys (zs : List Int) : List Value := zs.map (Value.int .u8)
theorem bys_length (zs : List Int) : (bys zs).length = zs.length := by simp [bys]
structure Reads (w : World) (ad : Option Addr) (n : Nat) (zs : List Int) : Prop where
 len : zs.length = n
 cells : n = 0 ∨ ∃ b off, ad = some ⟨b, off, none⟩ ∧ ∀ i, i < n → w.cell? ⟨b, off + i, none⟩ = some (.int .u8 (zs.getD i 0))
 bd : ∀ i, 0 ≤ zs.getD i 0 ∧ zs.getD i 0 ≤ 255
theorem Reads.below {w w' : World} {ad : Option Addr} {n : Nat} {zs : List Int} (h : Reads w ad n zs) {B : Nat} (hb : Below B w w') (hB : w.heap.size ≤ B) : Reads w' ad n zs := by
 refine ⟨h.len, ?_, h.bd⟩
 rcases h.cells with h0 | ⟨b, off, rfl, hc⟩
 · exact .inl h0
 · refine .inr ⟨b, off, rfl, fun i hi => ?_⟩
   have hc' := hc i hi
   have := World.block_lt_of_cell? w _ hc'
   rw [hb.cell (p := ⟨b, off + i, none⟩) (by simp at this ⊢; omega)]
   exact hc'
theorem Reads.own {w : World} {base : Nat} {v : Value} {n : Nat} {zs : List Int} (h : w.ownsRow base 5 1 v n (bys zs)) (hbd : ∀ i, 0 ≤ zs.getD i 0 ∧ zs.getD i 0 ≤ 255) :
 ∃ ad cap, v = .slice ad n cap ∧ Reads w ad n zs ∧ (ad = none ∨ ∃ g, ad = some ⟨g, 0, none⟩ ∧ base ≤ g ∧ g < w.heap.size) := by
 have hl : zs.length = n := by have := h.1; simpa [bys] using this
 rcases h.2 with ⟨rfl, rfl⟩ | ⟨g, cap, cur, rfl, hb, hg, hnc, hcm, hcs, htake⟩
 · exact ⟨none, 0, rfl, ⟨hl, .inl rfl, hbd⟩, .inl rfl⟩
 · refine ⟨_, cap, rfl, ⟨hl, .inr ⟨g, 0, rfl, fun i hi => ?_⟩, hbd⟩, .inr ⟨g, rfl, hb, (Array.getElem?_eq_some_iff.1 hg).1⟩⟩
   rw [Nat.zero_add, h.cellAt i (by omega)]
   simp [bys, hl, hi]
theorem hid {p : Prop} (h : p) : Hid p := h
structure Still (w w' : World) : Prop where
 os : w'.os = w.os
 tape : w'.tape = w.tape
 output : w'.output = w.output
 heap : w'.heap = w.heap
theorem Still.refl (w : World) : Still w w := ⟨rfl, rfl, rfl, rfl⟩
theorem Still.trans {a b c : World} (h : Still a b) (k : Still b c) : Still a c := ⟨k.os.trans h.os, k.tape.trans h.tape, k.output.trans h.output, k.heap.trans h.heap⟩
theorem Still.drewN (w : World) (n : Nat) : Still w (w.drewN n) := ⟨rfl, rfl, rfl, rfl⟩
theorem Still.drew (w : World) : Still w w.drew := ⟨rfl, rfl, rfl, rfl⟩
theorem Still.below {w w' : World} (h : Still w w') (B : Nat) : Below B w w' := ⟨h.os, h.tape, h.output, by rw [h.heap]; exact Nat.le_refl _, fun k _ => by rw [h.heap]⟩
theorem Still.size {w w' : World} (h : Still w w') : w'.heap.size = w.heap.size := by rw [h.heap]
theorem Still.reads {w w' : World} (h : Still w w') {ad : Option Addr} {n : Nat} {zs : List Int} (hr : Reads w ad n zs) : Reads w' ad n zs := hr.below (h.below w.heap.size) (Nat.le_refl _)
theorem owns_below {w w' : World} {B : Nat} (hb : Below B w w') (hB : w.heap.size ≤ B) {base : Nat} {e : TypeId} {s : Nat} {v : Value} {n : Nat} {xs : List Value} (ho : w.ownsRow base e s v n xs) : w'.ownsRow base e s v n xs := by
 refine ⟨ho.1, ?_⟩
 rcases ho.2 with hn | ⟨g, cap, cur, rfl, hbg, hg, rest⟩
 · exact .inl hn
 · exact .inr ⟨g, cap, cur, rfl, hbg, by rw [hb.block g (by have := (Array.getElem?_eq_some_iff.1 hg).1; omega)]; exact hg, rest⟩
theorem Reads.other {w w' : World} {ad : Option Addr} {n : Nat} {zs : List Int} (h : Reads w ad n zs) {row : Option Nat} (hg : w.grownBy w' row) (hne : ∀ a, ad = some a → some a.block ≠ row) : Reads w' ad n zs := by
 refine ⟨h.len, ?_, h.bd⟩
 rcases h.cells with h0 | ⟨b, off, rfl, hc⟩
 · exact .inl h0
 · exact .inr ⟨b, off, rfl, fun i hi => hg.cell (hc i hi) (hne ⟨b, off, none⟩ rfl)⟩
theorem grown_trans {a b c : World} {row : Option Nat} (h : a.grownBy b row) (k : b.grownBy c row) : a.grownBy c row :=
 ⟨k.os.trans h.os, k.tape.trans h.tape, k.output.trans h.output, Nat.le_trans h.size k.size, fun i hi hr => (k.block i (Nat.lt_of_lt_of_le hi h.size) hr).trans (h.block i hi hr)⟩
theorem grown_refl (w : World) (row : Option Nat) : w.grownBy w row := ⟨rfl, rfl, rfl, Nat.le_refl _, fun _ _ _ => rfl⟩
theorem bys_append (a b : List Int) : bys (a ++ b) = bys a ++ bys b := by simp [bys]
theorem reads_in {w : World} {a : Option Addr} {len cap : Nat} {zs : List Int}
 (h : (a = none ∧ len = 0 ∧ cap = 0 ∧ zs = []) ∨ ∃ x, a = some x ∧ len ≤ cap ∧ cap ≤ maxLen ∧ zs.length = cap ∧ (∀ i, i < zs.length → w.cell? (x.add i) = some (.int .u8 (zs.getD i 0))) ∧ ∀ n ∈ zs, (Lit.int .u8 n).wf = true) :
 Reads w a len (zs.take len) := by
 rcases h with ⟨rfl, rfl, rfl, rfl⟩ | ⟨x, rfl, hlc, hm, hz, hc, hwf⟩
 · exact ⟨rfl, .inl rfl, by simp⟩
 · refine ⟨by simp; omega, ?_, ?_⟩
   · by_cases h0 : len = 0
     · exact .inl h0
     · obtain ⟨b, off, rfl, hc'⟩ := ints_at hc (by omega)
       refine .inr ⟨b, off, rfl, fun i hi => ?_⟩
       rw [hc' i (by omega)]
       simp [hi]
   · intro i
     by_cases hi : i < (zs.take len).length
     · rw [List.getD_eq_getElem?_getD, List.getElem?_eq_getElem hi]
       exact bounds_u8 (hwf _ (List.mem_of_mem_take (List.getElem_mem hi)))
     · rw [List.getD_eq_getElem?_getD, List.getElem?_eq_none (by omega)]; simp
theorem len_in {w : World} {a : Option Addr} {len cap : Nat} {zs : List Int} {k : IntKind}
 (h : (a = none ∧ len = 0 ∧ cap = 0 ∧ zs = []) ∨ ∃ x, a = some x ∧ len ≤ cap ∧ cap ≤ maxLen ∧ zs.length = cap ∧ (∀ i, i < zs.length → w.cell? (x.add i) = some (.int k (zs.getD i 0))) ∧ ∀ n ∈ zs, (Lit.int k n).wf = true) :
 len ≤ maxLen := by
 rcases h with ⟨_, rfl, _⟩ | ⟨_, _, h1, h2, _⟩
 · exact Nat.zero_le _
 · exact Nat.le_trans h1 h2
theorem Reads.news {w : World} {a : Addr} {n : Nat} {zs : List Int} (h : Reads w (some a) n zs) : ∀ j u, (bys zs)[j]? = some u → w.cell? (a.add j) = some u := by
 intro j u hu
 have hj : j < zs.length := by
  have := (List.getElem?_eq_some_iff.1 hu).1
  simpa [bys] using this
 rcases h.cells with h0 | ⟨b, off, hb, hc⟩
 · have := h.len; omega
 · cases hb
   have e : (⟨b, off, none⟩ : Addr).add j = ⟨b, off + j, none⟩ := by unfold Addr.add; split <;> simp_all
   rw [e, hc j (by have := h.len; omega)]
   simpa [bys, hj] using hu
theorem bys_one (zs : List Int) : ∀ u ∈ bys zs, u.oneCell' = true := by
 intro u hu
 simp only [bys, List.mem_map] at hu
 obtain ⟨x, _, rfl⟩ := hu
 rfl
theorem Reads.pos {w : World} {ad : Option Addr} {n : Nat} {zs : List Int} (h : Reads w ad n zs) (hn : 0 < n) : ∃ b off, ad = some ⟨b, off, none⟩ := by
 rcases h.cells with h0 | ⟨b, off, hb, _⟩
 · omega
 · exact ⟨b, off, hb⟩
end Go.Proofs.YtjcjoabblafboaaGreat
/- The contracts of the law package's helpers: toByteS, eqByteS, markByteS, heldByteS. Conditions: lengths of at most 2^21 where memory is made or counted. -/




namespace Go.Proofs.YtjcjoabblafboaaGreat
open Go.RowKit
set_option maxRecDepth 100000
theorem Tryz.info5 : (Tryz.prog.info? 5).map (fun i => (i.zero, i.size, i.bytes)) = some (some (.int .u8 0), 1, 1) := by kernel_rfl
end Go.Proofs.YtjcjoabblafboaaGreat
/- Floats of 64 bits, by what they are worth: the number of least floats in each (its 'wval'), and what sums, differences, products and halves give where the result is exact. No statement of its own; no conditions. -/

namespace Go.Proofs.YtjcjoabblafboaaGreat
open Ieee
def wval (r : Nat) : Nat := if r < 2 ^ 52 then r else (2 ^ 52 + r % 2 ^ 52) * 2 ^ (r / 2 ^ 52 - 1)
def rg (v : Nat) : Nat := (v.log2 - 52) * 2 ^ 52 + v / 2 ^ (v.log2 - 52)
theorem log2_mul_pow (m k : Nat) (h : 0 < m) : (m * 2 ^ k).log2 = m.log2 + k := by
 have hm : m ≠ 0 := by omega
 have h1 := Nat.log2_self_le hm
 have h2 := Nat.lt_log2_self (n := m)
 have hp : 0 < 2 ^ k := Nat.two_pow_pos k
 refine (Nat.log2_eq_iff (Nat.mul_ne_zero hm (by omega))).2 ⟨?_, ?_⟩
 · rw [Nat.pow_add]; exact Nat.mul_le_mul_right _ h1
 · rw [show m.log2 + k + 1 = (m.log2 + 1) + k by omega, Nat.pow_add]; exact Nat.mul_lt_mul_of_pos_right h2 hp
theorem cut_even (s : Bool) (q d : Nat) : Toward.even.cut s (q * 2 ^ d) d = q := by
 have hp : 0 < 2 ^ d := Nat.two_pow_pos d
 by_cases hq : q = 0
 · subst hq
   have : 0 < 1 <<< min d 2 := by rw [Nat.one_shiftLeft]; exact Nat.two_pow_pos _
   simp only [Toward.cut, Nat.zero_mul, Nat.log2_zero, Nat.zero_add, Nat.zero_div, Nat.zero_mod, Nat.mul_zero]
   have h1 : ¬ (1 <<< min d 2 < 0) := by omega
   have h2 : ((1 <<< min d 2) == 0) = false := beq_eq_false_iff_ne.2 (by omega)
   simp [h2]
 · have hl := log2_mul_pow q d (by omega)
   have hm : min d ((q * 2 ^ d).log2 + 2) = d := by omega
   simp only [Toward.cut, hm, Nat.one_shiftLeft]
   rw [Nat.mul_div_cancel _ hp, Nat.mul_mod_left]
   have h2 : ((2 ^ d) == 2 * 0) = false := beq_eq_false_iff_ne.2 (by omega)
   simp [h2]
theorem cut_zero (s : Bool) (n d : Nat) : Toward.zero.cut s n d = n / 2 ^ d := by
 simp only [Toward.cut, Nat.one_shiftLeft, Bool.toNat_false, Nat.add_zero]
 by_cases h : d ≤ n.log2 + 2
 · rw [Nat.min_eq_left h]
 · have h1 : n < 2 ^ (n.log2 + 1) := Nat.lt_log2_self
   have h2 : 2 ^ (n.log2 + 1) ≤ 2 ^ (n.log2 + 2) := Nat.pow_le_pow_right (by omega) (by omega)
   have h3 : 2 ^ (n.log2 + 2) ≤ 2 ^ d := Nat.pow_le_pow_right (by omega) (by omega)
   rw [Nat.min_eq_right (by omega), Nat.div_eq_of_lt (by omega), Nat.div_eq_of_lt (by omega)]
theorem lp : double.leastPlace = -1074 := by decide
theorem fb : double.fractionBits = 52 := rfl
theorem bin : double.binade = 2 ^ 52 := rfl
theorem infR : double.infRung = 2047 * 2 ^ 52 := by decide
theorem sw : double.signWeight = 2 ^ 63 := rfl
theorem rg_zero : rg 0 = 0 := by decide
theorem nearest_rg (s : Bool) (m : Nat) (p : Int) (v : Nat) (h : m * 2 ^ (p + 1074).toNat = v * 2 ^ (-1074 - p).toNat) (hd : 2 ^ (v.log2 - 52) ∣ v) :
 double.nearest s m p = double.word s (min (rg v) (2047 * 2 ^ 52)) := by
 by_cases hm : m = 0
 · subst hm
   have hp : 0 < 2 ^ (-1074 - p).toNat := Nat.two_pow_pos _
   have hv : v = 0 := by
    rw [Nat.zero_mul] at h
    rcases Nat.mul_eq_zero.1 h.symm with h | h
    · exact h
    · omega
   subst hv
   rw [rg_zero]
   simp [Format.nearest]
 · have hv : 0 < v := by
    rcases Nat.eq_zero_or_pos v with rfl | h0
    · rw [Nat.zero_mul] at h
      rcases Nat.mul_eq_zero.1 h with h | h
      · exact absurd h hm
      · have := Nat.two_pow_pos (p + 1074).toNat; omega
    · exact h0
   have hl : m.log2 + (p + 1074).toNat = v.log2 + (-1074 - p).toNat := by
    rw [← log2_mul_pow m _ (by omega), ← log2_mul_pow v _ hv, h]
   obtain ⟨q, hq⟩ := hd
   have hrg : rg v = (v.log2 - 52) * 2 ^ 52 + q := by
    unfold rg
    have hp : 0 < 2 ^ (v.log2 - 52) := Nat.two_pow_pos _
    have : v / 2 ^ (v.log2 - 52) = q := by
     rw [Nat.div_eq_iff_eq_mul_left hp ⟨q, hq⟩, Nat.mul_comm]
     exact hq
    rw [this]
   have hK : max (p + (m.log2 : Int) - (52 : Nat)) (-1074) = ((v.log2 - 52 : Nat) : Int) - 1074 := by omega
   rw [hrg]
   have hkept : Toward.even.cut s (m <<< (p - (((v.log2 - 52 : Nat) : Int) - 1074)).toNat) ((((v.log2 - 52 : Nat) : Int) - 1074) - p).toNat = q := by
    clear hK hrg hl
    generalize v.log2 - 52 = K at hq
    rw [hq] at h
    by_cases ht : (K : Int) ≤ p + 1074
    · obtain ⟨t, ht'⟩ : ∃ t : Nat, p + 1074 = K + t := ⟨(p + 1074 - K).toNat, by omega⟩
      have e1 : (p - ((K : Int) - 1074)).toNat = t := by omega
      have e2 : (((K : Int) - 1074) - p).toNat = 0 := by omega
      have e3 : (p + 1074).toNat = K + t := by omega
      have e4 : (-1074 - p).toNat = 0 := by omega
      rw [e3, e4, Nat.pow_zero, Nat.mul_one, Nat.pow_add] at h
      rw [e1, e2, Nat.shiftLeft_eq]
      have hp : 0 < 2 ^ K := Nat.two_pow_pos _
      have : m * 2 ^ t = q := by
       apply Nat.eq_of_mul_eq_mul_left hp
       rw [← h, ← Nat.mul_assoc, Nat.mul_comm (2 ^ K) m, Nat.mul_assoc]
      rw [this]
      have := cut_even s q 0
      rwa [Nat.pow_zero, Nat.mul_one] at this
    · obtain ⟨t, ht'⟩ : ∃ t : Nat, (K : Int) = p + 1074 + t := ⟨(K - (p + 1074)).toNat, by omega⟩
      have e1 : (p - ((K : Int) - 1074)).toNat = 0 := by omega
      have e2 : (((K : Int) - 1074) - p).toNat = t := by omega
      rw [e1, e2, Nat.shiftLeft_eq, Nat.pow_zero, Nat.mul_one]
      have : m = q * 2 ^ t := by
       by_cases hA : 0 ≤ p + 1074
       · obtain ⟨A, hA'⟩ : ∃ A : Nat, p + 1074 = A := ⟨(p + 1074).toNat, by omega⟩
         have e3 : (p + 1074).toNat = A := by omega
         have e4 : (-1074 - p).toNat = 0 := by omega
         have e5 : K = A + t := by omega
         rw [e3, e4, Nat.pow_zero, Nat.mul_one, e5, Nat.pow_add] at h
         have hp : 0 < 2 ^ A := Nat.two_pow_pos _
         apply Nat.eq_of_mul_eq_mul_right hp
         rw [h, Nat.mul_comm q, Nat.mul_assoc, Nat.mul_assoc, Nat.mul_comm, Nat.mul_assoc]
       · obtain ⟨A, hA'⟩ : ∃ A : Nat, p + 1074 = -A := ⟨(-(p + 1074)).toNat, by omega⟩
         have e3 : (p + 1074).toNat = 0 := by omega
         have e4 : (-1074 - p).toNat = A := by omega
         have e5 : t = K + A := by omega
         rw [e3, e4, Nat.pow_zero, Nat.mul_one] at h
         rw [h, e5, Nat.pow_add, Nat.mul_comm (2 ^ K) q, Nat.mul_assoc]
      rw [this, cut_even]
   simp only [Format.nearest, hm, if_false, lp, fb, bin, infR]
   rw [hK, hkept]
   have e : ((((v.log2 - 52 : Nat) : Int) - 1074) - -1074).toNat = v.log2 - 52 := by omega
   rw [e]
def Rep (v : Nat) : Prop := rg v < 2047 * 2 ^ 52 ∧ wval (rg v) = v ∧ 2 ^ (v.log2 - 52) ∣ v
theorem rep_of (c j : Nat) (hc : c < 2 ^ 53) (hv : j ≤ 2045) : Rep (c * 2 ^ j) := by
 by_cases h0 : c = 0
 · subst h0
   rw [Nat.zero_mul]
   refine ⟨by rw [rg_zero]; decide, by rw [rg_zero]; decide, ⟨0, by simp⟩⟩
 · have hl := log2_mul_pow c j (by omega)
   have hcl : c.log2 < 53 := (Nat.log2_lt h0).2 hc
   have hdvd : 2 ^ ((c * 2 ^ j).log2 - 52) ∣ c * 2 ^ j := Nat.dvd_trans (Nat.pow_dvd_pow 2 (by omega)) ⟨c, Nat.mul_comm _ _⟩
   have hpos : c * 2 ^ j ≠ 0 := Nat.mul_ne_zero h0 (by have := Nat.two_pow_pos j; omega)
   generalize c * 2 ^ j = v at *
   have hL := Nat.log2_self_le hpos
   have hU := Nat.lt_log2_self (n := v)
   have hLv : v.log2 < 2098 := by omega
   unfold Rep rg
   by_cases hs : v.log2 ≤ 52
   · have e : v.log2 - 52 = 0 := by omega
     rw [e] at hdvd ⊢
     rw [Nat.pow_zero, Nat.zero_mul, Nat.zero_add, Nat.div_one]
     have h53 : v < 2 ^ 53 := Nat.lt_of_lt_of_le hU (Nat.pow_le_pow_right (by omega) (by omega))
     refine ⟨by omega, ?_, ⟨v, by omega⟩⟩
     unfold wval
     split
     · rfl
     · have : v / 2 ^ 52 = 1 := by omega
       rw [this]
       omega
   · obtain ⟨K, hK⟩ : ∃ K, v.log2 = 52 + K := ⟨v.log2 - 52, by omega⟩
     have e : v.log2 - 52 = K := by omega
     rw [e] at hdvd ⊢
     rw [hK] at hL hU
     obtain ⟨q, rfl⟩ := hdvd
     have hp : 0 < 2 ^ K := Nat.two_pow_pos _
     rw [Nat.mul_div_cancel_left _ hp]
     have hq1 : 2 ^ 52 ≤ q := by
      rw [Nat.pow_add, Nat.mul_comm] at hL
      exact Nat.le_of_mul_le_mul_left hL hp
     have hq2 : q < 2 ^ 53 := by
      rw [show 52 + K + 1 = K + 53 by omega, Nat.pow_add] at hU
      exact Nat.lt_of_mul_lt_mul_left hU
     have hKl : K ≤ 2045 := by omega
     refine ⟨by omega, ?_, ⟨q, rfl⟩⟩
     unfold wval
     have h1 : ¬ (K * 2 ^ 52 + q < 2 ^ 52) := by omega
     have h2 : (K * 2 ^ 52 + q) / 2 ^ 52 = K + 1 := by omega
     have h3 : (K * 2 ^ 52 + q) % 2 ^ 52 = q - 2 ^ 52 := by omega
     have h4 : 2 ^ 52 + (q - 2 ^ 52) = q := by omega
     rw [if_neg h1, h2, h3, h4, Nat.add_sub_cancel, Nat.mul_comm]
theorem wval_lt (a b : Nat) (h : a < b) : wval a < wval b := by
 unfold wval
 by_cases hb : b < 2 ^ 52
 · rw [if_pos hb, if_pos (by omega)]
   exact h
 · rw [if_neg hb]
   have hm : a % 2 ^ 52 < 2 ^ 52 := Nat.mod_lt _ (by omega)
   by_cases ha : a < 2 ^ 52
   · rw [if_pos ha]
     have hp : 0 < 2 ^ (b / 2 ^ 52 - 1) := Nat.two_pow_pos _
     have : (2 ^ 52 + b % 2 ^ 52) * 1 ≤ (2 ^ 52 + b % 2 ^ 52) * 2 ^ (b / 2 ^ 52 - 1) := Nat.mul_le_mul_left _ hp
     omega
   · rw [if_neg ha]
     have hab : a / 2 ^ 52 ≤ b / 2 ^ 52 := Nat.div_le_div_right (by omega)
     by_cases he : a / 2 ^ 52 = b / 2 ^ 52
     · rw [he]
       exact Nat.mul_lt_mul_of_pos_right (by omega) (Nat.two_pow_pos _)
     · obtain ⟨t, ht⟩ : ∃ t, b / 2 ^ 52 - 1 = (a / 2 ^ 52 - 1) + 1 + t := ⟨b / 2 ^ 52 - 1 - (a / 2 ^ 52 - 1) - 1, by omega⟩
       rw [ht, Nat.pow_add, Nat.pow_succ (n := 2) (m := a / 2 ^ 52 - 1)]
       have hp : 0 < 2 ^ (a / 2 ^ 52 - 1) := Nat.two_pow_pos _
       have ht' : 0 < 2 ^ t := Nat.two_pow_pos _
       generalize 2 ^ (a / 2 ^ 52 - 1) = P at *
       calc (2 ^ 52 + a % 2 ^ 52) * P < (2 ^ 52 * 2) * P := Nat.mul_lt_mul_of_pos_right (by omega) hp
        _ = 2 ^ 52 * (P * 2) := by rw [Nat.mul_assoc, Nat.mul_comm 2 P]
        _ ≤ 2 ^ 52 * (P * 2 * 2 ^ t) := Nat.mul_le_mul_left _ (Nat.le_mul_of_pos_right _ ht')
        _ ≤ (2 ^ 52 + b % 2 ^ 52) * (P * 2 * 2 ^ t) := Nat.mul_le_mul_right _ (by omega)
theorem wval_inj (a b : Nat) (h : wval a = wval b) : a = b := by
 rcases Nat.lt_trichotomy a b with h' | h' | h'
 · have := wval_lt a b h'; omega
 · exact h'
 · have := wval_lt b a h'; omega
theorem wval_form (r : Nat) (h : r < 2047 * 2 ^ 52) : ∃ c j, c < 2 ^ 53 ∧ wval r = c * 2 ^ j ∧ j ≤ 2045 := by
 unfold wval
 have hm : r % 2 ^ 52 < 2 ^ 52 := Nat.mod_lt _ (by omega)
 split
 · exact ⟨r, 0, by omega, by rw [Nat.pow_zero, Nat.mul_one], by omega⟩
 · exact ⟨_, _, by omega, rfl, by omega⟩
theorem rep_wval (r : Nat) (h : r < 2047 * 2 ^ 52) : Rep (wval r) := by
 obtain ⟨c, j, hc, he, hv⟩ := wval_form r h
 rw [he]
 exact rep_of c j hc hv
theorem rg_wval (r : Nat) (h : r < 2047 * 2 ^ 52) : rg (wval r) = r := wval_inj _ _ (rep_wval r h).2.1
theorem read_word (s : Bool) (r : Nat) (h : r < 2047 * 2 ^ 52) : ∃ m : Nat, ∃ k : Nat, double.read (double.word s r) = .number s m ((k : Int) - 1074) ∧ m * 2 ^ k = wval r ∧ m < 2 ^ 53 := by
 have h63 : r < 2 ^ 63 := by omega
 have hs : (double.word s r / double.signWeight % 2 == 1) = s := by
  unfold Format.word
  rw [sw]
  cases s
  · rw [if_neg (by simp)]
    have : r / 2 ^ 63 = 0 := by omega
    rw [this]; rfl
  · rw [if_pos rfl]
    have : (2 ^ 63 + r) / 2 ^ 63 % 2 = 1 := by omega
    rw [this]; rfl
 have hr : double.word s r % double.signWeight = r := by
  unfold Format.word
  rw [sw]
  cases s
  · rw [if_neg (by simp)]; omega
  · rw [if_pos rfl]; omega
 simp only [Format.read, hs, hr, bin, infR, lp]
 have hm : r % 2 ^ 52 < 2 ^ 52 := Nat.mod_lt _ (by omega)
 by_cases h1 : r < 2 ^ 52
 · rw [if_pos h1]
   refine ⟨r, 0, rfl, ?_, by omega⟩
   rw [wval, if_pos h1, Nat.pow_zero, Nat.mul_one]
 · rw [if_neg h1, if_pos h]
   refine ⟨2 ^ 52 + r % 2 ^ 52, r / 2 ^ 52 - 1, ?_, ?_, ?_⟩
   · congr 1
   · rw [wval, if_neg h1]
   · omega
theorem write_word (s : Bool) (m : Nat) (p : Int) (r : Nat) (hr : r < 2047 * 2 ^ 52) (h : m * 2 ^ (p + 1074).toNat = wval r * 2 ^ (-1074 - p).toNat) : double.write (.number s m p) = double.word s r := by
 have hR := rep_wval r hr
 have := nearest_rg s m p (wval r) h hR.2.2
 rw [rg_wval r hr, Nat.min_eq_left (by omega)] at this
 exact this
theorem shift (M V A B : Nat) (h : M * 2 ^ A = V * 2 ^ B) : M * 2 ^ ((A : Int) - B).toNat = V * 2 ^ ((B : Int) - A).toNat := by
 by_cases hAB : B ≤ A
 · obtain ⟨t, rfl⟩ : ∃ t, A = B + t := ⟨A - B, by omega⟩
   have e1 : (((B + t : Nat) : Int) - B).toNat = t := by omega
   have e2 : ((B : Int) - ((B + t : Nat) : Int)).toNat = 0 := by omega
   rw [e1, e2, Nat.pow_zero, Nat.mul_one]
   have hp : 0 < 2 ^ B := Nat.two_pow_pos _
   apply Nat.eq_of_mul_eq_mul_right hp
   rw [← h, Nat.pow_add, Nat.mul_assoc, Nat.mul_comm (2 ^ t)]
 · obtain ⟨t, rfl⟩ : ∃ t, B = A + t := ⟨B - A, by omega⟩
   have e1 : (((A + t : Nat) : Int) - A).toNat = t := by omega
   have e2 : ((A : Int) - ((A + t : Nat) : Int)).toNat = 0 := by omega
   rw [e1, e2, Nat.pow_zero, Nat.mul_one]
   have hp : 0 < 2 ^ A := Nat.two_pow_pos _
   apply Nat.eq_of_mul_eq_mul_right hp
   rw [h, Nat.pow_add, Nat.mul_assoc, Nat.mul_comm (2 ^ A)]
theorem write_by (s : Bool) (m : Nat) (p : Int) (r A B : Nat) (hr : r < 2047 * 2 ^ 52) (hp : p + 1074 = (A : Int) - B) (h : m * 2 ^ A = wval r * 2 ^ B) : double.write (.number s m p) = double.word s r := by
 refine write_word s m p r hr ?_
 rw [show (-1074 - p : Int) = (B : Int) - A by omega, hp]
 exact shift _ _ _ _ h
theorem mul_exact (s t : Bool) (a b c : Nat) (ha : a < 2047 * 2 ^ 52) (hb : b < 2047 * 2 ^ 52) (hc : c < 2047 * 2 ^ 52) (h : wval a * wval b = wval c * 2 ^ 1074) :
 double.mul (double.word s a) (double.word t b) = some (double.word (s ^^ t) c) := by
 obtain ⟨m, k, e1, v1, -⟩ := read_word s a ha
 obtain ⟨n, l, e2, v2, -⟩ := read_word t b hb
 rw [Format.mul, e1, e2]
 simp only [Datum.product, Option.map_some]
 rw [write_by (s ^^ t) _ _ c (k + l) 1074 hc (by omega)]
 rw [← h, ← v1, ← v2, Nat.pow_add, Nat.mul_assoc, Nat.mul_assoc, ← Nat.mul_assoc n, ← Nat.mul_assoc (2 ^ k), Nat.mul_comm (2 ^ k) n]
theorem shl_to (m k b : Nat) (h : b ≤ k) : m <<< (((k : Int) - 1074) - ((b : Int) - 1074)).toNat * 2 ^ b = m * 2 ^ k := by
 rw [show (((k : Int) - 1074) - ((b : Int) - 1074)).toNat = k - b by omega, Nat.shiftLeft_eq, Nat.mul_assoc, ← Nat.pow_add, Nat.sub_add_cancel h]
theorem min_place (k l : Nat) : min ((k : Int) - 1074) ((l : Int) - 1074) = ((min k l : Nat) : Int) - 1074 := by omega
theorem add_exact (a b c : Nat) (ha : a < 2047 * 2 ^ 52) (hb : b < 2047 * 2 ^ 52) (hc : c < 2047 * 2 ^ 52) (h : wval a + wval b = wval c) :
 double.add a b = some c := by
 obtain ⟨m, k, e1, v1, -⟩ := read_word false a ha
 obtain ⟨n, l, e2, v2, -⟩ := read_word false b hb
 have ea : double.word false a = a := rfl
 have eb : double.word false b = b := rfl
 have ec : double.word false c = c := rfl
 rw [ea] at e1
 rw [eb] at e2
 rw [Format.add, e1, e2]
 simp only [Datum.sum, Option.map_some, min_place, signed, Bool.false_eq_true, if_false, Bool.and_self]
 have h1 := shl_to m k (min k l) (Nat.min_le_left _ _)
 have h2 := shl_to n l (min k l) (Nat.min_le_right _ _)
 generalize m <<< (((k : Int) - 1074) - (((min k l : Nat) : Int) - 1074)).toNat = X at *
 generalize n <<< (((l : Int) - 1074) - (((min k l : Nat) : Int) - 1074)).toNat = Y at *
 have hs : (if (X : Int) + Y = 0 then false else decide ((X : Int) + Y < 0)) = false := by
  split
  · rfl
  · exact decide_eq_false (by omega)
 have hn : ((X : Int) + Y).natAbs = X + Y := by omega
 rw [hs, hn, write_by false _ _ c (min k l) 0 hc (by omega), ec]
 rw [Nat.pow_zero, Nat.mul_one, Nat.add_mul, h1, h2, ← h, v1, v2]
theorem sub_exact (a b c : Nat) (ha : a < 2047 * 2 ^ 52) (hb : b < 2047 * 2 ^ 52) (hc : c < 2047 * 2 ^ 52) (h : wval a = wval b + wval c) :
 double.sub a b = some c := by
 obtain ⟨m, k, e1, v1, -⟩ := read_word false a ha
 obtain ⟨n, l, e2, v2, -⟩ := read_word false b hb
 have ea : double.word false a = a := rfl
 have eb : double.word false b = b := rfl
 have ec : double.word false c = c := rfl
 rw [ea] at e1
 rw [eb] at e2
 rw [Format.sub, e1, e2]
 simp only [Datum.opposite, Datum.sum, Option.map_some, min_place, signed, Bool.false_eq_true, if_false, Bool.not_false, if_true, Bool.and_true]
 have h1 := shl_to m k (min k l) (Nat.min_le_left _ _)
 have h2 := shl_to n l (min k l) (Nat.min_le_right _ _)
 generalize m <<< (((k : Int) - 1074) - (((min k l : Nat) : Int) - 1074)).toNat = X at *
 generalize n <<< (((l : Int) - 1074) - (((min k l : Nat) : Int) - 1074)).toNat = Y at *
 have hp : 0 < 2 ^ min k l := Nat.two_pow_pos _
 have hXY : Y ≤ X := by
  apply Nat.le_of_mul_le_mul_right _ hp
  omega
 have hs : (if (X : Int) + -(Y : Int) = 0 then false else decide ((X : Int) + -(Y : Int) < 0)) = false := by
  split
  · rfl
  · exact decide_eq_false (by omega)
 have hn : ((X : Int) + -(Y : Int)).natAbs = X - Y := by omega
 rw [hs, hn, write_by false _ _ c (min k l) 0 hc (by omega), ec]
 rw [Nat.pow_zero, Nat.mul_one, Nat.sub_mul, h1, h2]
 omega
theorem half_exact (s : Bool) (d a c q : Nat) (hd : double.read d = .number false (2 ^ 52) ((q : Int) - 52)) (ha : a < 2047 * 2 ^ 52) (hc : c < 2047 * 2 ^ 52) (h : wval a = wval c * 2 ^ q) :
 double.div (double.word s a) d = some (double.word s c) := by
 obtain ⟨m, k, e1, v1, hm⟩ := read_word s a ha
 have hl : m.log2 ≤ 52 := by
  by_cases h0 : m = 0
  · subst h0; decide
  · have := (Nat.log2_lt h0).2 hm
    omega
 have h52 : (2 ^ 52 : Nat).log2 = 52 := by decide
 have hn0 : ¬ ((2 : Nat) ^ 52 = 0) := by decide
 rw [Format.div, e1, hd]
 simp only [Datum.quotient, fb, hn0, if_false, h52, Option.map_some, Bool.xor_false]
 obtain ⟨t, ht⟩ : ∃ t, 52 + 2 + 52 - m.log2 = 52 + t := ⟨52 + 2 - m.log2, by omega⟩
 rw [ht]
 have hdiv : m <<< (52 + t) = (m * 2 ^ t) * 2 ^ 52 := by rw [Nat.shiftLeft_eq, Nat.pow_add, Nat.mul_comm (2 ^ 52), Nat.mul_assoc]
 rw [hdiv, Nat.mul_div_cancel _ (by decide), Nat.mul_mod_left]
 simp only [bne_self_eq_false, Bool.toNat_false, Nat.add_zero]
 rw [write_by s _ _ c k (q + t + 1) hc (by omega)]
 have e : 2 * (m * 2 ^ t) * 2 ^ k = (m * 2 ^ k) * 2 ^ t * 2 := by ac_rfl
 rw [e, v1, h, Nat.pow_succ, Nat.pow_add]
 ac_rfl
theorem toInt_exact (a : Nat) (ha : a < 2047 * 2 ^ 52) (n : Nat) (h : wval a = n * 2 ^ 1074) : (double.read a).toInt .zero = some (n : Int) := by
 obtain ⟨m, k, e1, v1, hm⟩ := read_word false a ha
 have ea : double.word false a = a := rfl
 rw [ea] at e1
 rw [e1]
 simp only [Datum.toInt, Datum.integral, signed, Bool.false_eq_true, if_false, Nat.shiftLeft_zero, cut_zero]
 rw [← v1] at h
 have := shift _ _ _ _ h
 rw [Nat.shiftLeft_eq]
 have e1 : (k : Int) - ((1074 : Nat) : Int) = (k : Int) - 1074 := rfl
 have e2 : ((1074 : Nat) : Int) - (k : Int) = -((k : Int) - 1074) := by omega
 rw [e1, e2] at this
 rw [this, Nat.mul_div_cancel _ (Nat.two_pow_pos _)]
theorem sign_of (s : Bool) (r : Nat) (h : r < 2 ^ 63) : (double.word s r / double.signWeight % 2 == 1) = s := by
 unfold Format.word
 rw [sw]
 cases s
 · rw [if_neg (by simp)]
   have : r / 2 ^ 63 = 0 := by omega
   rw [this]; rfl
 · rw [if_pos rfl]
   have : (2 ^ 63 + r) / 2 ^ 63 % 2 = 1 := by omega
   rw [this]; rfl
theorem place_of (s : Bool) (r : Nat) (h : r < 2 ^ 63) : double.word s r % double.signWeight = r := by
 unfold Format.word
 rw [sw]
 cases s
 · rw [if_neg (by simp)]; omega
 · rw [if_pos rfl]; omega
theorem read_inf (s : Bool) : double.read (double.word s (2047 * 2 ^ 52)) = .infinity s := by cases s <;> decide
theorem read_nan (s : Bool) (r : Nat) (h : 2047 * 2 ^ 52 < r) (h' : r < 2 ^ 63) : double.read (double.word s r) = .nan s (r - 2047 * 2 ^ 52) := by
 simp only [Format.read, sign_of s r h', place_of s r h', bin, infR]
 rw [if_neg (by omega), if_neg (by omega), if_neg (by omega)]
def key (s : Bool) (r : Nat) : Int := if s then -(r : Int) else r
def sv (s : Bool) (r : Nat) : Int := if s then -(wval r : Int) else wval r
theorem wval_pos (a : Nat) (h : 0 < a) : 0 < wval a := by
 have := wval_lt 0 a h
 omega
theorem wval_zero : wval 0 = 0 := by decide
theorem sv_lt (s t : Bool) (a b : Nat) : sv s a < sv t b ↔ key s a < key t b := by
 have hz := wval_zero
 have h1 : a < b ↔ wval a < wval b := ⟨wval_lt a b, fun h => by
  rcases Nat.lt_trichotomy a b with h' | h' | h'
  · exact h'
  · subst h'; omega
  · have := wval_lt b a h'; omega⟩
 have h2 : b < a ↔ wval b < wval a := ⟨wval_lt b a, fun h => by
  rcases Nat.lt_trichotomy a b with h' | h' | h'
  · have := wval_lt a b h'; omega
  · subst h'; omega
  · exact h'⟩
 have h3 : 0 < a ↔ 0 < wval a := ⟨wval_pos a, fun h => by
  rcases Nat.eq_zero_or_pos a with rfl | h'
  · omega
  · exact h'⟩
 have h4 : 0 < b ↔ 0 < wval b := ⟨wval_pos b, fun h => by
  rcases Nat.eq_zero_or_pos b with rfl | h'
  · omega
  · exact h'⟩
 cases s <;> cases t <;> simp only [sv, key, if_true, Bool.false_eq_true, if_false] <;> omega
theorem cmp_eq (x y x' y' : Int) (h1 : x < y ↔ x' < y') (h2 : y < x ↔ y' < x') : compare x y = compare x' y' := by
 simp only [compare, compareOfLessAndEq]
 by_cases h : x < y
 · rw [if_pos h, if_pos (h1.1 h)]
 · rw [if_neg h, if_neg (fun h' => h (h1.2 h'))]
   by_cases e : x = y
   · rw [if_pos e, if_pos (by omega)]
   · rw [if_neg e, if_neg (by omega)]
theorem signed_mul (s : Bool) (m k b : Nat) (h : b ≤ k) : signed s m (((k : Int) - 1074) - ((b : Int) - 1074)).toNat * (2 ^ b : Nat) = if s then -((m * 2 ^ k : Nat) : Int) else ((m * 2 ^ k : Nat) : Int) := by
 have := shl_to m k b h
 unfold signed
 cases s
 · simp only [Bool.false_eq_true, if_false]
   rw [← Int.natCast_mul, this]
 · simp only [if_true]
   rw [Int.neg_mul, ← Int.natCast_mul, this]
theorem order_key (s t : Bool) (a b : Nat) (ha : a ≤ 2047 * 2 ^ 52) (hb : b ≤ 2047 * 2 ^ 52) : double.order (double.word s a) (double.word t b) = some (compare (key s a) (key t b)) := by
 unfold Format.order
 by_cases ha' : a = 2047 * 2 ^ 52
 · subst ha'
   rw [read_inf]
   by_cases hb' : b = 2047 * 2 ^ 52
   · subst hb'
     rw [read_inf]
     cases s <;> cases t <;> rfl
   · obtain ⟨n, l, e2, v2, -⟩ := read_word t b (by omega)
     rw [e2]
     simp only [Datum.order]
     congr 1
     cases s <;> cases t <;> simp only [key, if_true, Bool.false_eq_true, if_false, compare, compareOfLessAndEq] <;> (first | (rw [if_pos (by omega)]; done) | (rw [if_neg (by omega), if_neg (by omega)]))
 · obtain ⟨m, k, e1, v1, -⟩ := read_word s a (by omega)
   rw [e1]
   by_cases hb' : b = 2047 * 2 ^ 52
   · subst hb'
     rw [read_inf]
     simp only [Datum.order]
     congr 1
     cases s <;> cases t <;> simp only [key, if_true, Bool.false_eq_true, if_false, compare, compareOfLessAndEq] <;> (first | (rw [if_pos (by omega)]; done) | (rw [if_neg (by omega), if_neg (by omega)]))
   · obtain ⟨n, l, e2, v2, -⟩ := read_word t b (by omega)
     rw [e2]
     simp only [Datum.order, min_place]
     congr 1
     have h1 := signed_mul s m k (min k l) (Nat.min_le_left _ _)
     have h2 := signed_mul t n l (min k l) (Nat.min_le_right _ _)
     rw [v1] at h1
     rw [v2] at h2
     generalize signed s m (((k : Int) - 1074) - (((min k l : Nat) : Int) - 1074)).toNat = X at *
     generalize signed t n (((l : Int) - 1074) - (((min k l : Nat) : Int) - 1074)).toNat = Y at *
     have hp : (0 : Int) < ((2 ^ min k l : Nat) : Int) := Int.natCast_pos.2 (Nat.two_pow_pos _)
     generalize ((2 ^ min k l : Nat) : Int) = P at *
     have h1' : X * P = sv s a := h1
     have h2' : Y * P = sv t b := h2
     refine cmp_eq _ _ _ _ ?_ ?_
     · rw [← sv_lt, ← h1', ← h2']
       exact ⟨fun h => Int.mul_lt_mul_of_pos_right h hp, fun h => Int.lt_of_mul_lt_mul_right h (by omega)⟩
     · rw [← sv_lt, ← h1', ← h2']
       exact ⟨fun h => Int.mul_lt_mul_of_pos_right h hp, fun h => Int.lt_of_mul_lt_mul_right h (by omega)⟩
theorem order_nan_l (s : Bool) (r y : Nat) (h : 2047 * 2 ^ 52 < r) (h' : r < 2 ^ 63) : double.order (double.word s r) y = none := by
 unfold Format.order
 rw [read_nan s r h h']
 rfl
end Go.Proofs.YtjcjoabblafboaaGreat
/- Floats of 64 bits, by their bits: which are NaN, how two stand to each other, their ranks. No statement of its own; no conditions. -/

namespace Go.Proofs.YtjcjoabblafboaaGreat
open Ieee
def isN (x : Nat) : Bool := decide (9218868437227405312 < x % 9223372036854775808)
def kx (x : Nat) : Int := if x < 9223372036854775808 then (x : Int) else 9223372036854775808 - x
def fbits (x : Nat) : Nat := if isN x then 9221120237041090560 else x
def frank (x : Nat) : Nat := if isN x then 18446744073709551615 else if x % 9223372036854775808 = 0 then 9223372036854775808 else if x < 9223372036854775808 then x + 9223372036854775808 else 18446744073709551615 - x
theorem isN_iff (x : Nat) : isN x = true ↔ 9218868437227405312 < x % 9223372036854775808 := by simp [isN]
theorem isN_not (x : Nat) : isN x = false ↔ x % 9223372036854775808 ≤ 9218868437227405312 := by simp [isN]
theorem word_neg (r : Nat) : double.word true r = 9223372036854775808 + r := by unfold Format.word; rw [sw, if_pos rfl]
theorem split_x (x : Nat) (h : x < 18446744073709551616) : ∃ s r, r < 9223372036854775808 ∧ x = double.word s r ∧ x % 9223372036854775808 = r ∧ kx x = key s r := by
 by_cases hx : x < 9223372036854775808
 · exact ⟨false, x, hx, rfl, by omega, by rw [kx, if_pos hx]; rfl⟩
 · refine ⟨true, x - 9223372036854775808, by omega, by rw [word_neg]; omega, by omega, ?_⟩
   rw [kx, if_neg hx, key, if_pos rfl]
   omega
theorem order_x (x y : Nat) (hx : x < 18446744073709551616) (hy : y < 18446744073709551616) (nx : isN x = false) (ny : isN y = false) : FloatKind.f64.format.order x y = some (compare (kx x) (kx y)) := by
 rw [isN_not] at nx ny
 obtain ⟨s, a, -, rfl, ea, ka⟩ := split_x x hx
 obtain ⟨t, b, -, rfl, eb, kb⟩ := split_x y hy
 rw [ka, kb]
 exact order_key s t a b (by omega) (by omega)
theorem order_l (x y : Nat) (hx : x < 18446744073709551616) (nx : isN x = true) : FloatKind.f64.format.order x y = none := by
 rw [isN_iff] at nx
 obtain ⟨s, a, h, rfl, ea, -⟩ := split_x x hx
 exact order_nan_l s a y (by omega) (by omega)
theorem order_lt (x y : Nat) (hx : x < 18446744073709551616) (hy : y < 18446744073709551616) (nx : isN x = false) (ny : isN y = false) (h : kx x < kx y) : FloatKind.f64.format.order x y = some .lt := by
 rw [order_x x y hx hy nx ny]
 congr 1
 simp only [compare, compareOfLessAndEq]
 rw [if_pos h]
theorem order_eq (x y : Nat) (hx : x < 18446744073709551616) (hy : y < 18446744073709551616) (nx : isN x = false) (ny : isN y = false) (h : kx x = kx y) : FloatKind.f64.format.order x y = some .eq := by
 rw [order_x x y hx hy nx ny]
 congr 1
 simp only [compare, compareOfLessAndEq]
 rw [if_neg (by omega), if_pos h]
theorem order_gt (x y : Nat) (hx : x < 18446744073709551616) (hy : y < 18446744073709551616) (nx : isN x = false) (ny : isN y = false) (h : kx y < kx x) : FloatKind.f64.format.order x y = some .gt := by
 rw [order_x x y hx hy nx ny]
 congr 1
 simp only [compare, compareOfLessAndEq]
 rw [if_neg (by omega), if_neg (by omega)]
theorem fbits_lt (x : Nat) (h : x < 18446744073709551616) : fbits x < 18446744073709551616 := by
 unfold fbits; split <;> omega
end Go.Proofs.YtjcjoabblafboaaGreat
/- What halves, doubles, sums and cuts of floats give, in the steps that the specification takes. No statement of its own; no conditions. -/

namespace Go.Proofs.YtjcjoabblafboaaGreat
open Ieee
def F (c j : Nat) : Nat := rg (c * 2 ^ j)
theorem F_wval (c j : Nat) (hc : c < 2 ^ 53) (hj : j ≤ 2045) : wval (F c j) = c * 2 ^ j := (rep_of c j hc hj).2.1
theorem F_lt (c j : Nat) (hc : c < 2 ^ 53) (hj : j ≤ 2045) : F c j < 2047 * 2 ^ 52 := (rep_of c j hc hj).1
theorem F_of (r c j : Nat) (h : r < 2047 * 2 ^ 52) (e : wval r = c * 2 ^ j) : r = F c j := by rw [F, ← e, rg_wval r h]
theorem wval_norm (t f : Nat) (hf : f < 2 ^ 52) : wval ((t + 1) * 2 ^ 52 + f) = (2 ^ 52 + f) * 2 ^ t := by
 unfold wval
 have h1 : ¬ ((t + 1) * 2 ^ 52 + f < 2 ^ 52) := by omega
 have h2 : ((t + 1) * 2 ^ 52 + f) / 2 ^ 52 = t + 1 := by omega
 have h3 : ((t + 1) * 2 ^ 52 + f) % 2 ^ 52 = f := by omega
 rw [if_neg h1, h2, h3, Nat.add_sub_cancel]
theorem F_norm (t f : Nat) (hf : f < 2 ^ 52) (ht : t ≤ 2045) : F (2 ^ 52 + f) t = (t + 1) * 2 ^ 52 + f := (F_of _ _ _ (by omega) (wval_norm t f hf)).symm
theorem F_sub (f : Nat) (hf : f < 2 ^ 52) : F f 0 = f := (F_of f f 0 (by omega) (by rw [wval, if_pos hf, Nat.pow_zero, Nat.mul_one])).symm
theorem two_read : double.read 4611686018427387904 = .number false (2 ^ 52) (((1 : Nat) : Int) - 52) := by decide
theorem p52_read : double.read 4841369599423283200 = .number false (2 ^ 52) (((52 : Nat) : Int) - 52) := by decide
theorem two_F : 4611686018427387904 = F (2 ^ 52) 1023 := (F_norm 1023 0 (by omega) (by omega)).symm
theorem one_F : 4607182418800017408 = F (2 ^ 52) 1022 := (F_norm 1022 0 (by omega) (by omega)).symm
theorem p52_F : 4841369599423283200 = F (2 ^ 52) 1074 := (F_norm 1074 0 (by omega) (by omega)).symm
theorem half_F (c j : Nat) (hc : c < 2 ^ 53) (hj : j + 1 ≤ 2045) : double.div (F c (j + 1)) 4611686018427387904 = some (F c j) := by
 refine half_exact false 4611686018427387904 (F c (j + 1)) (F c j) 1 two_read (F_lt _ _ hc hj) (F_lt _ _ hc (by omega)) ?_
 rw [F_wval _ _ hc hj, F_wval _ _ hc (by omega), Nat.pow_succ, Nat.pow_one, Nat.mul_assoc]
theorem cut_F (c j : Nat) (hc : c < 2 ^ 53) (hj : j + 52 ≤ 2045) : double.div (F c (j + 52)) 4841369599423283200 = some (F c j) := by
 refine half_exact false 4841369599423283200 (F c (j + 52)) (F c j) 52 p52_read (F_lt _ _ hc hj) (F_lt _ _ hc (by omega)) ?_
 rw [F_wval _ _ hc hj, F_wval _ _ hc (by omega), Nat.pow_add, Nat.mul_assoc]
theorem pw (c j a b k d : Nat) (h : j + a + b = k + d) : c * 2 ^ j * (2 ^ a * 2 ^ b) = c * 2 ^ k * 2 ^ d := by
 rw [← Nat.pow_add, Nat.mul_assoc, Nat.mul_assoc, ← Nat.pow_add, ← Nat.pow_add, ← Nat.add_assoc, h]
theorem both (f a p : Nat) : f * p + a * p = (a + f) * p := by rw [Nat.add_mul, Nat.add_comm]
theorem decode_eq (b : Nat) : FloatKind.f64.decode b = double.read b := rfl
theorem double_F (c j : Nat) (hc : c < 2 ^ 53) (hj : j + 1 ≤ 2045) : double.mul (F c j) 4611686018427387904 = some (F c (j + 1)) := by
 have := mul_exact false false (F c j) (F (2 ^ 52) 1023) (F c (j + 1)) (F_lt _ _ hc (by omega)) (F_lt _ _ (by omega) (by omega)) (F_lt _ _ hc hj) (by
  rw [F_wval _ _ hc hj, F_wval _ _ hc (by omega), F_wval _ _ (by omega) (by omega)]
  exact pw c j 52 1023 (j + 1) 1074 (by omega))
 rw [← two_F] at this
 exact this
theorem lift_F (c j : Nat) (hc : c < 2 ^ 53) (hj : j + 52 ≤ 2045) : double.mul (F c j) 4841369599423283200 = some (F c (j + 52)) := by
 have := mul_exact false false (F c j) (F (2 ^ 52) 1074) (F c (j + 52)) (F_lt _ _ hc (by omega)) (F_lt _ _ (by omega) (by omega)) (F_lt _ _ hc hj) (by
  rw [F_wval _ _ hc hj, F_wval _ _ hc (by omega), F_wval _ _ (by omega) (by omega)]
  exact pw c j 52 1074 (j + 52) 1074 (by omega))
 rw [← p52_F] at this
 exact this
theorem less_F (f : Nat) (hf : f < 2 ^ 52) : double.sub (F (2 ^ 52 + f) 1022) 4607182418800017408 = some (F f 1022) := by
 rw [one_F]
 refine sub_exact _ _ _ (F_lt _ _ (by omega) (by omega)) (F_lt _ _ (by omega) (by omega)) (F_lt _ _ (by omega) (by omega)) ?_
 rw [F_wval _ _ (by omega) (by omega), F_wval _ _ (by omega) (by omega), F_wval _ _ (by omega) (by omega), Nat.add_mul]
theorem more_F (f : Nat) (hf : f < 2 ^ 52) : double.add (F f 1022) 4607182418800017408 = some (F (2 ^ 52 + f) 1022) := by
 rw [one_F]
 refine add_exact _ _ _ (F_lt _ _ (by omega) (by omega)) (F_lt _ _ (by omega) (by omega)) (F_lt _ _ (by omega) (by omega)) ?_
 rw [F_wval _ _ (by omega) (by omega), F_wval _ _ (by omega) (by omega), F_wval _ _ (by omega) (by omega)]
 generalize (2 : Nat) ^ 1022 = P
 exact both f _ P
theorem int_of (x n : Nat) (h : (double.read x).toInt .zero = some (n : Int)) (hn : n < 18446744073709551616) : floatToIntVal .f64 x .u64 = some (n : Int) := by
 rw [← decode_eq] at h
 unfold floatToIntVal
 rw [h]
 have e1 : IntKind.u64.min = 0 := by decide
 have e2 : IntKind.u64.max = 18446744073709551615 := by decide
 simp only [e1, e2]
 rw [if_pos (by omega)]
theorem int_F (f : Nat) (hf : f < 2 ^ 52) : floatToIntVal .f64 (F f 1074) .u64 = some (f : Int) :=
 int_of _ _ (toInt_exact (F f 1074) (F_lt _ _ (by omega) (by omega)) f (F_wval _ _ (by omega) (by omega))) (by omega)
theorem of_F (f : Nat) (hf : f < 2 ^ 53) : floatOfInt .f64 (f : Int) = F f 1074 := by
 unfold floatOfInt FloatKind.nearest FloatKind.encode
 have hn : decide ((f : Int) < 0) = false := decide_eq_false (by omega)
 rw [hn, Int.natAbs_natCast]
 exact write_by false f 0 (F f 1074) 1074 0 (F_lt _ _ hf (by omega)) (by omega) (by rw [F_wval _ _ hf (by omega), Nat.pow_zero, Nat.mul_one])
end Go.Proofs.YtjcjoabblafboaaGreat
/- The contracts of the program's FloatBits, FloatOf, FloatRank, FloatUnrank and FloatCompare. For every argument. -/







namespace Go.Proofs.YtjcjoabblafboaaGreat
open Go.RowKit
theorem isNaN_walk (x : Nat) (hx : x < 18446744073709551616) (w : World) :
 Calls Tryz.prog 187 #[.float .f64 x] w fun e w' => e = .returned (.bool (isN x)) ∧ w' = w := by
 by_cases hn : isN x = true
 · have o := order_l x x hx hn
   go_enter Tryz.func187, Tryz.ntmps187
   go_wp2
   go_ret
   exact ⟨by rw [hn]; rfl, rfl⟩
 · have hn' : isN x = false := by simpa using hn
   have o := order_eq x x hx hx hn' hn' rfl
   go_enter Tryz.func187, Tryz.ntmps187
   go_wp2
   go_ret
   exact ⟨by rw [hn']; rfl, rfl⟩
theorem bits_run (x : Nat) (w : World) : (callFunc 188 #[.float .f64 x]).run Tryz.prog w = .ok (.value (.int .u64 x)) w := by
 rw [run_callFunc_extern (P := Tryz.prog) Tryz.func188 (by kernel_rfl) (by kernel_rfl) (by kernel_rfl) (e := Extern.MathFloatBits.float64bits) (by kernel_rfl)]
 rfl
theorem impl_FloatBits (x : Nat) (hx : x < 18446744073709551616) (w : World) :
 Calls Tryz.prog 139 #[.float .f64 x] w fun e w' => e = .returned (.int .u64 (fbits x)) ∧ w' = w := by
 have hb := bits_run x
 by_cases hn : isN x = true
 · have ef : fbits x = 9221120237041090560 := by rw [fbits, if_pos hn]
   go_enter Tryz.func139, Tryz.ntmps139
   go_wp2_with fail
   refine (isNaN_walk x hx w).mono ?_
   rintro e w1 ⟨rfl, rfl⟩
   go_wp2_with fail
   go_ret
   exact ⟨by rw [ef]; rfl, rfl⟩
 · have hn' : isN x = false := by simpa using hn
   have ef : fbits x = x := by rw [fbits, if_neg hn]
   go_enter Tryz.func139, Tryz.ntmps139
   go_wp2_with fail
   refine (isNaN_walk x hx w).mono ?_
   rintro e w1 ⟨rfl, rfl⟩
   go_wp2_with fail
   go_ret
   exact ⟨by rw [ef]; rfl, rfl⟩
theorem not64 (x : Nat) (h : x < 18446744073709551616) : bits .xor .u64 IntKind.u64.max (x : Int) = ((18446744073709551615 - x : Nat) : Int) := by
 have e : IntKind.u64.max = ((18446744073709551615 : Nat) : Int) := by decide
 rw [e, u64_xor_nat _ _ (by omega) h]
 congr 1
 have h1 : (BitVec.allOnes 64 ^^^ BitVec.ofNat 64 x).toNat = 18446744073709551615 ^^^ x := by
  rw [BitVec.toNat_xor, BitVec.toNat_allOnes, BitVec.toNat_ofNat, Nat.mod_eq_of_lt h]
 rw [← h1, BitVec.allOnes_xor, BitVec.toNat_not, BitVec.toNat_ofNat, Nat.mod_eq_of_lt h]
theorem kx_zero : kx 0 = 0 := rfl
theorem isN_zero : isN 0 = false := by decide
theorem impl_FloatRank (x : Nat) (hx : x < 18446744073709551616) (w : World) :
 Calls Tryz.prog 169 #[.float .f64 x] w fun e w' => e = .returned (.int .u64 (frank x)) ∧ w' = w := by
 by_cases hn : isN x = true
 · have ef : frank x = 18446744073709551615 := by rw [frank, if_pos hn]
   go_enter Tryz.func169, Tryz.ntmps169
   go_wp2_with fail
   refine (isNaN_walk x hx w).mono ?_
   rintro e w1 ⟨rfl, rfl⟩
   go_wp2_with fail
   go_ret
   exact ⟨by rw [ef]; rfl, rfl⟩
 · have hn' : isN x = false := by simpa using hn
   have hm := (isN_not x).1 hn'
   have eb : fbits x = x := by rw [fbits, if_neg hn]
   by_cases h0 : x % 9223372036854775808 = 0
   · have ef : frank x = 9223372036854775808 := by rw [frank, if_neg hn, if_pos h0]
     have o := order_eq x 0 hx (by omega) hn' isN_zero (by rw [kx_zero, kx]; split <;> omega)
     go_enter Tryz.func169, Tryz.ntmps169
     go_wp2_with fail
     refine (isNaN_walk x hx w).mono ?_
     rintro e w1 ⟨rfl, rfl⟩
     go_wp2_with fail
     go_ret
     exact ⟨by rw [ef]; rfl, rfl⟩
   · by_cases hs : x < 9223372036854775808
     · have ef := hid (show frank x = x + 9223372036854775808 by rw [frank, if_neg hn, if_neg h0, if_pos hs])
       have o := order_gt x 0 hx (by omega) hn' isN_zero (by rw [kx_zero, kx]; split <;> omega)
       go_enter Tryz.func169, Tryz.ntmps169
       go_wp2_with fail
       refine (isNaN_walk x hx w).mono ?_
       rintro e w1 ⟨rfl, rfl⟩
       go_wp2_with fail
       refine (impl_FloatBits x hx _).mono ?_
       rintro e w1 ⟨rfl, rfl⟩
       rw [eb]
       go_wp2_with fail
       go_ret
       exact ⟨by rw [ef.out]; rfl, rfl⟩
     · have ef := hid (show frank x = 18446744073709551615 - x by rw [frank, if_neg hn, if_neg h0, if_neg hs])
       have o := order_lt x 0 hx (by omega) hn' isN_zero (by rw [kx_zero, kx]; split <;> omega)
       have hnot := not64 x hx
       go_enter Tryz.func169, Tryz.ntmps169
       go_wp2_with fail
       refine (isNaN_walk x hx w).mono ?_
       rintro e w1 ⟨rfl, rfl⟩
       go_wp2_with fail
       refine (impl_FloatBits x hx _).mono ?_
       rintro e w1 ⟨rfl, rfl⟩
       rw [eb]
       go_wp2_with fail
       go_ret
       exact ⟨by rw [ef.out]; rfl, rfl⟩
def cmp3 (x y : Nat) : Int := if x < y then -1 else if y < x then 1 else 0
theorem isNaN64 (x : Nat) (w : World) : Calls Tryz.prog 210 #[.int .u64 x] w fun e w' => e = .returned (.bool false) ∧ w' = w := by
 go_enter Tryz.func210, Tryz.ntmps210
 go_wp2
 go_ret
 exact ⟨rfl, rfl⟩
theorem cmp_walk (x y : Nat) (w : World) : Calls Tryz.prog 168 #[.int .u64 x, .int .u64 y] w fun e w' => e = .returned (.int .i64 (cmp3 x y)) ∧ w' = w := by
 rcases Nat.lt_trichotomy x y with h | h | h
 · have ec : cmp3 x y = -1 := by rw [cmp3, if_pos h]
   have h1 : (x : Int) < y := by omega
   go_enter Tryz.func168, Tryz.ntmps168
   go_wp2_with fail
   refine (isNaN64 x _).mono ?_
   rintro e w1 ⟨rfl, rfl⟩
   go_wp2_with fail
   refine (isNaN64 y _).mono ?_
   rintro e w1 ⟨rfl, rfl⟩
   go_wp2_with fail
   go_ret
   exact ⟨by rw [ec]; rfl, rfl⟩
 · have ec : cmp3 x y = 0 := by rw [cmp3, if_neg (by omega), if_neg (by omega)]
   subst h
   go_enter Tryz.func168, Tryz.ntmps168
   go_wp2_with fail
   refine (isNaN64 x _).mono ?_
   rintro e w1 ⟨rfl, rfl⟩
   go_wp2_with fail
   refine (isNaN64 x _).mono ?_
   rintro e w1 ⟨rfl, rfl⟩
   go_wp2_with fail
   go_ret
   exact ⟨by rw [ec]; rfl, rfl⟩
 · have ec : cmp3 x y = 1 := by rw [cmp3, if_neg (by omega), if_pos h]
   have h1 : (y : Int) < x := by omega
   go_enter Tryz.func168, Tryz.ntmps168
   go_wp2_with fail
   refine (isNaN64 x _).mono ?_
   rintro e w1 ⟨rfl, rfl⟩
   go_wp2_with fail
   refine (isNaN64 y _).mono ?_
   rintro e w1 ⟨rfl, rfl⟩
   go_wp2_with fail
   go_ret
   exact ⟨by rw [ec]; rfl, rfl⟩
theorem impl_FloatCompare (x y : Nat) (hx : x < 18446744073709551616) (hy : y < 18446744073709551616) (w : World) :
 Calls Tryz.prog 124 #[.float .f64 x, .float .f64 y] w fun e w' => e = .returned (.int .i64 (cmp3 (frank x) (frank y))) ∧ w' = w := by
 go_enter Tryz.func124, Tryz.ntmps124
 go_wp2_with fail
 refine (impl_FloatRank x hx _).mono ?_
 rintro e w1 ⟨rfl, rfl⟩
 go_wp2_with fail
 refine (impl_FloatRank y hy _).mono ?_
 rintro e w1 ⟨rfl, rfl⟩
 go_wp2_with fail
 refine (cmp_walk _ _ _).mono ?_
 rintro e w1 ⟨rfl, rfl⟩
 go_wp2_with fail
 go_ret
 exact ⟨rfl, rfl⟩
end Go.Proofs.YtjcjoabblafboaaGreat
/- The contract of the specification's FloatBits: it answers 'fbits', and leaves memory as it was. For every argument. -/


namespace Go.Proofs.YtjcjoabblafboaaGreat
open Go.RowKit Ieee
theorem kpos (a : Nat) (h : a ≤ 9218868437227405312) : a < 18446744073709551616 ∧ isN a = false ∧ kx a = a := by
 refine ⟨by omega, (isN_not a).2 (by omega), ?_⟩
 rw [kx, if_pos (by omega)]
theorem olt (a b : Nat) (ha : a ≤ 9218868437227405312) (hb : b ≤ 9218868437227405312) (h : a < b) : FloatKind.f64.format.order a b = some .lt :=
 order_lt a b (kpos a ha).1 (kpos b hb).1 (kpos a ha).2.1 (kpos b hb).2.1 (by rw [(kpos a ha).2.2, (kpos b hb).2.2]; omega)
theorem ogt (a b : Nat) (ha : a ≤ 9218868437227405312) (hb : b ≤ 9218868437227405312) (h : b < a) : FloatKind.f64.format.order a b = some .gt :=
 order_gt a b (kpos a ha).1 (kpos b hb).1 (kpos a ha).2.1 (kpos b hb).2.1 (by rw [(kpos a ha).2.2, (kpos b hb).2.2]; omega)
theorem oeq (a : Nat) (ha : a ≤ 9218868437227405312) : FloatKind.f64.format.order a a = some .eq :=
 order_eq a a (kpos a ha).1 (kpos a ha).1 (kpos a ha).2.1 (kpos a ha).2.1 rfl
theorem dval (r : Nat) (h : r < 9218868437227405312) (h1 : 4503599627370496 ≤ r) : ∃ t f, f < 2 ^ 52 ∧ t ≤ 2045 ∧ r = (t + 1) * 2 ^ 52 + f ∧ r = F (2 ^ 52 + f) t := by
 refine ⟨r / 4503599627370496 - 1, r % 4503599627370496, by omega, by omega, by omega, ?_⟩
 rw [F_norm _ _ (by omega) (by omega)]
 omega
theorem half_r (r : Nat) (h1 : 4611686018427387904 ≤ r) (h2 : r < 9218868437227405312) : floatBits .quo .f64 r 4611686018427387904 = some (r - 4503599627370496) := by
 obtain ⟨t, f, hf, ht, e1, e2⟩ := dval r h2 (by omega)
 obtain ⟨u, rfl⟩ : ∃ u, t = u + 1 := ⟨t - 1, by omega⟩
 have := half_F (2 ^ 52 + f) u (by omega) (by omega)
 rw [← e2, F_norm u f hf (by omega)] at this
 rw [show r - 4503599627370496 = (u + 1) * 2 ^ 52 + f by omega]
 exact this
theorem F_suc (c j : Nat) (hc : c < 2 ^ 53) (hj : j + 1 ≤ 2045) : wval (F c (j + 1)) = wval (F c j) * 2 := by
 rw [F_wval _ _ hc hj, F_wval _ _ hc (by omega), Nat.pow_succ, Nat.mul_assoc]
theorem two_F' : 4611686018427387904 = F (2 ^ 52) (1022 + 1) := (F_norm (1022 + 1) 0 (by omega) (by omega)).symm
theorem wval_le (a b : Nat) (h : wval a < wval b) : a < b := by
 rcases Nat.lt_or_ge a b with h' | h'
 · exact h'
 · rcases Nat.lt_or_eq_of_le h' with h'' | h''
   · have := wval_lt b a h''; omega
   · subst h''; omega
theorem dbl_r (r : Nat) (h : r < 4607182418800017408) : ∃ q, floatBits .mul .f64 r 4611686018427387904 = some q ∧ wval q = wval r * 2 ∧ q < 4611686018427387904 := by
 have main : ∃ c j, c < 2 ^ 53 ∧ j + 1 ≤ 2045 ∧ r = F c j := by
  by_cases h1 : 4503599627370496 ≤ r
  · obtain ⟨t, f, hf, ht, e1, e2⟩ := dval r (by omega) h1
    exact ⟨2 ^ 52 + f, t, by omega, by omega, e2⟩
  · exact ⟨r, 0, by omega, by omega, (F_sub r (by omega)).symm⟩
 obtain ⟨c, j, hc, hj, e⟩ := main
 have hm := double_F c j hc hj
 rw [← e] at hm
 have hv : wval (F c (j + 1)) = wval r * 2 := by
  rw [e, F_wval _ _ hc hj, F_wval _ _ hc (by omega), Nat.pow_succ, Nat.mul_assoc]
 refine ⟨_, hm, hv, ?_⟩
 apply wval_le
 rw [hv]
 have h1 : wval r < wval 4607182418800017408 := wval_lt _ _ h
 have h2 : wval 4611686018427387904 = wval 4607182418800017408 * 2 := by
  rw [two_F', one_F]
  exact F_suc _ _ (by omega) (by omega)
 omega
theorem top_r (r k j q : Nat) (hq1 : 4607182418800017408 ≤ q) (hq2 : q < 4611686018427387904) (hj : j ≤ 1022)
 (h : (k = 0 ∧ wval q = wval r * 2 ^ j) ∨ (j = 0 ∧ r = q + k * 4503599627370496)) :
 ∃ f : Nat, f < 4503599627370496 ∧ r = (k + 1023 - j) * 4503599627370496 + f ∧ floatBits .sub .f64 q 4607182418800017408 = some (F f 1022) ∧ floatBits .mul .f64 (F f 1022) 4841369599423283200 = some (F f 1074) ∧ floatToIntVal .f64 (F f 1074) .u64 = some (f : Int) := by
 refine ⟨q - 4607182418800017408, by omega, ?_, ?_, lift_F _ 1022 (by omega) (by omega), int_F _ (by omega)⟩
 · rcases h with ⟨rfl, h⟩ | ⟨rfl, h⟩
   · obtain ⟨t, ht⟩ : ∃ t, 1023 - j = t + 1 := ⟨1022 - j, by omega⟩
     have e1 : wval q = (2 ^ 52 + (q - 4607182418800017408)) * 2 ^ 1022 := by
      have e0 := wval_norm 1022 (q - 4607182418800017408) (by omega)
      rwa [show (1022 + 1) * 2 ^ 52 + (q - 4607182418800017408) = q by omega] at e0
     have e2 := wval_norm t (q - 4607182418800017408) (by omega)
     have e3 : (2 : Nat) ^ 1022 = 2 ^ t * 2 ^ j := by rw [show (1022 : Nat) = t + j by omega, Nat.pow_add]
     rw [e1, e3, ← Nat.mul_assoc, ← e2] at h
     have := wval_inj _ _ (Nat.eq_of_mul_eq_mul_right (Nat.two_pow_pos j) h)
     rw [← this]
     omega
   · omega
 · have hs := less_F (q - 4607182418800017408) (by omega)
   rw [F_norm _ _ (by omega) (by omega)] at hs
   rw [show (1022 + 1) * 2 ^ 52 + (q - 4607182418800017408) = q by omega] at hs
   exact hs
theorem low_r (r q : Nat) (hq : q < 4607182418800017408) (h : wval q = wval r * 2 ^ 1022) :
 r < 4503599627370496 ∧ floatBits .mul .f64 q 4841369599423283200 = some (F r 1074) ∧ floatToIntVal .f64 (F r 1074) .u64 = some (r : Int) := by
 have h1 : wval q < wval 4607182418800017408 := wval_lt _ _ hq
 have h2 : wval 4607182418800017408 = wval 4503599627370496 * 2 ^ 1022 := by
  rw [one_F, F_wval _ _ (by omega) (by omega), show wval 4503599627370496 = 2 ^ 52 by decide]
 have hlt : r < 4503599627370496 := by
  apply wval_le
  rw [h, h2] at h1
  exact Nat.lt_of_mul_lt_mul_right h1
 have hv : wval r = r := by rw [wval, if_pos hlt]
 rw [hv] at h
 have e : q = F r 1022 := F_of q r 1022 (by omega) h
 refine ⟨hlt, ?_, int_F r hlt⟩
 rw [e]
 exact lift_F r 1022 (by omega) (by omega)
end Go.Proofs.YtjcjoabblafboaaGreat
/- The contract of the specification's FloatBits: it answers 'fbits', and leaves memory as it was. For every argument. -/

namespace Go.Proofs.YtjcjoabblafboaaGreat
open Go.RowKit Ieee
def fl : Value → Nat
 | .float _ b => b
 | _ => 0
theorem or_pos (x : Nat) (h : x < 9223372036854775808) : bits .or .u64 0 (x : Int) = ((x : Nat) : Int) := by
 have := u64_or_nat 0 x (by omega) (by omega)
 rw [Nat.zero_or] at this
 exact this
theorem or_neg (x : Nat) (h : x < 9223372036854775808) : bits .or .u64 9223372036854775808 (x : Int) = ((9223372036854775808 + x : Nat) : Int) := by
 have := u64_or_nat 9223372036854775808 x (by omega) (by omega)
 rw [nat_join 63 _ _ (by decide) (by omega)] at this
 exact this
theorem or_low (s e f : Nat) (hs : s = 0 ∨ s = 9223372036854775808) (he : e < 2048) (hf : f < 4503599627370496) : bits .or .u64 ((s + e * 4503599627370496 : Nat) : Int) (f : Int) = ((s + (e * 4503599627370496 + f) : Nat) : Int) := by
 rw [u64_or_nat _ _ (by omega) (by omega), nat_join 52 _ _ (by omega) (by omega), Nat.add_assoc]
theorem top_pos (r k j f : Nat) (hj : j ≤ 1022) (hk : k ≤ 1023) (hf : f < 4503599627370496) (e : r = (k + 1023 - j) * 4503599627370496 + f) :
 bits .or .u64 (bits .or .u64 0 (((k : Int) - j + 1023) * 4503599627370496)) (f : Int) = (r : Int) := by
 rw [show ((k : Int) - j + 1023) * 4503599627370496 = (((k + 1023 - j) * 4503599627370496 : Nat) : Int) by omega, or_pos _ (by omega)]
 have := or_low 0 (k + 1023 - j) f (.inl rfl) (by omega) hf
 rw [Nat.zero_add, Nat.zero_add, ← e] at this
 exact this
theorem top_neg (r k j f : Nat) (hj : j ≤ 1022) (hk : k ≤ 1023) (hf : f < 4503599627370496) (e : r = (k + 1023 - j) * 4503599627370496 + f) :
 bits .or .u64 (bits .or .u64 9223372036854775808 (((k : Int) - j + 1023) * 4503599627370496)) (f : Int) = ((9223372036854775808 + r : Nat) : Int) := by
 rw [show ((k : Int) - j + 1023) * 4503599627370496 = (((k + 1023 - j) * 4503599627370496 : Nat) : Int) by omega, or_neg _ (by omega)]
 rw [or_low 9223372036854775808 (k + 1023 - j) f (.inr rfl) (by omega) hf, ← e]
theorem neg_bits (r : Nat) (h : r < 9223372036854775808) : Op.negFloat .f64 (9223372036854775808 + r) = r := by
 unfold Op.negFloat
 rw [show 2 ^ (FloatKind.f64.format.exponentBits + FloatKind.f64.format.fractionBits) = 2 ^ 63 from rfl]
 have e : 9223372036854775808 + r = 2 ^ 63 ||| r := (nat_join 63 _ _ (by decide) (by omega)).symm
 rw [e]
 apply Nat.eq_of_testBit_eq
 intro i
 rw [Nat.testBit_xor, Nat.testBit_or, Nat.testBit_two_pow]
 by_cases hi : 63 = i
 · subst hi
   rw [Nat.testBit_lt_two_pow h]
   rfl
 · simp [hi]
theorem neg_run (x y : Nat) (h : Op.negFloat .f64 x = y) (w : World) : (Op.unary .neg (.float .f64 x)).run Tryz.prog w = .ok (.float .f64 y) w := by
 subst h
 rfl
set_option maxRecDepth 100000 in
set_option maxHeartbeats 1600000 in
theorem spec_FloatBits_pos (r : Nat) (h0 : 0 < r) (h1 : r < 9218868437227405312) (w : World) :
 Calls Tryz.prog 86 #[.float .f64 (r)] w fun e w' => e = .returned (.int .u64 ((r : Nat) : Int)) ∧ w' = w := by
 have o1 := oeq r (by omega)
 have o3 := ogt r 0 (by omega) (by omega) h0
 have o4 : FloatKind.f64.format.order r 9218868437227405311 = some .lt ∨ FloatKind.f64.format.order r 9218868437227405311 = some .eq := by
  by_cases h : r = 9218868437227405311
  · exact .inr (by rw [h]; exact oeq _ (by omega))
  · exact .inl (olt _ _ (by omega) (by omega) (by omega))
 have H0 := hid h0
 have H1 := hid h1
 clear h0 h1
 rcases o4 with o4 | o4
 all_goals
  go_enter Tryz.func86, Tryz.ntmps86
  go_wp2
  clear o1 o3 o4
  go_loopw [4, 5] (fun a e wr => ∃ q k : Nat, a = .float .f64 q ∧ e = .int .i64 k ∧ Hid (r = q + k * 4503599627370496) ∧ Hid (k = 0 ∨ 4607182418800017408 ≤ q) ∧ Hid (k ≤ 1023) ∧ wr = w) (fun a _ _ => fl a)
  case atStart => exact ⟨r, 0, rfl, rfl, hid (by omega), hid (.inl rfl), hid (by omega), rfl⟩
  case round =>
   obtain ⟨q, k, rfl, rfl, P1, P2, P3, rfl⟩ := hrel
   have hq : q < 9218868437227405312 := by have := P1.out; have := H1.out; omega
   by_cases hge : 4611686018427387904 ≤ q
   · obtain ⟨p, hp, ep⟩ : ∃ p, floatBits .quo .f64 q 4611686018427387904 = some p ∧ Hid (q = p + 4503599627370496) := ⟨_, half_r q hge hq, hid (by omega)⟩
     have hd := fun t w => run_float_arith (P := Tryz.prog) w .quo t .f64 q 4611686018427387904 _ hp
     have oo : FloatKind.f64.format.order q 4611686018427387904 = some .gt ∨ FloatKind.f64.format.order q 4611686018427387904 = some .eq := by
      by_cases h : q = 4611686018427387904
      · exact .inr (by rw [h]; exact oeq _ (by omega))
      · exact .inl (ogt _ _ (by omega) (by omega) (by omega))
     have Q1 := hid hge
     have Q2 := hid hq
     have hk : (k : Int) ≤ 1023 := by have := P3.out; omega
     clear hge hq hp
     rcases oo with oo | oo
     all_goals
      go_wp2
      go_roundw
      case rel => exact ⟨p, k + 1, rfl, by go_num, hid (by have := P1.out; have := ep.out; omega), hid (.inr (by have := Q1.out; have := ep.out; omega)), hid (by have := P1.out; have := P3.out; have := Q1.out; have := H1.out; omega), by first | trivial | rfl⟩
      case measure => have := ep.out; simp only [fl]; omega
   · have oo := olt q 4611686018427387904 (by omega) (by omega) (by omega)
     have Q1 := hid hge
     have Q2 := hid hq
     have hk : (k : Int) ≤ 1023 := by have := P3.out; omega
     clear hge hq
     go_wp2
     clear oo
     go_loopw [4, 5] (fun a e wr' => ∃ p j : Nat, a = .float .f64 p ∧ e = .int .i64 ((k : Int) - j) ∧ Hid ((k = 0 ∧ wval p = wval q * 2 ^ j) ∨ (j = 0 ∧ p = q ∧ 4607182418800017408 ≤ q)) ∧ Hid (p < 4611686018427387904) ∧ Hid (j ≤ 1022) ∧ wr' = wr) (fun _ e _ => (intOf e + 1022).toNat)
     case atStart => exact ⟨q, 0, rfl, by go_num, hid (by
      rcases P2.out with h | h
      · exact .inl ⟨h, by rw [Nat.pow_zero, Nat.mul_one]⟩
      · exact .inr ⟨rfl, rfl, h⟩), hid (by have := Q1.out; omega), hid (by omega), rfl⟩
     case round =>
      obtain ⟨p, j, rfl, rfl, R1, R2, R3, rfl⟩ := hrel
      have hj : (j : Int) ≤ 1022 := by have := R3.out; omega
      by_cases hlt : p < 4607182418800017408
      · have R1' : Hid (k = 0 ∧ wval p = wval q * 2 ^ j) := by
         rcases R1.out with h | h
         · exact h
         · exact absurd h.2.2 (by have := h.2.1; omega)
        have ol := olt p 4607182418800017408 (by omega) (by omega) hlt
        have hk0 : (k : Int) = 0 := by have := R1'.out.1; omega
        by_cases h22 : j = 1022
        · obtain ⟨a1, a2, a3⟩ := low_r q p hlt (by have := R1'.out.2; rw [h22] at this; exact this)
          have hm := fun t w => run_float_arith (P := Tryz.prog) w .mul t .f64 p 4841369599423283200 _ a2
          have hc := fun w => run_convert_float_int (P := Tryz.prog) w 70 136 .f64 .u64 _ (q : Int) (by rw [Tryz.underlying70]; rfl) Tryz.underlying136 a3
          have hor := or_pos q (by omega)
          have ht : ¬ (-1022 : Int) < (k : Int) - j := by omega
          have A1 := hid (show r = q by have := P1.out; have := R1'.out.1; subst this; omega)
          generalize F q 1074 = y at *
          clear a1 a2 a3 hlt h22 hk0
          go_wp2
          go_ret
          exact ⟨by rw [A1.out]; rfl, rfl⟩
        · obtain ⟨p', b1, b2, b3⟩ := dbl_r p hlt
          have hm := fun t w => run_float_arith (P := Tryz.prog) w .mul t .f64 p 4611686018427387904 _ b1
          have ht : (-1022 : Int) < (k : Int) - j := by omega
          have B2 := hid b2
          have B3 := hid b3
          have H22 := hid h22
          clear b1 b2 b3 hlt h22 hk0
          go_wp2
          go_roundw
          case rel => exact ⟨p', j + 1, rfl, by go_num, hid (.inl ⟨R1'.out.1, by rw [B2.out, R1'.out.2, Nat.pow_succ, Nat.mul_assoc]⟩), B3, hid (by have := R3.out; have := H22.out; omega), by first | trivial | rfl⟩
          case measure => simp [intOf]; omega
      · obtain ⟨f, c1, c2, c3, c4, c5⟩ := top_r r k j p (by omega) R2.out R3.out (by
         rcases R1.out with h | h
         · refine .inl ⟨h.1, ?_⟩
           have := P1.out
           rw [h.1, Nat.zero_mul, Nat.add_zero] at this
           rw [this]
           exact h.2
         · exact .inr ⟨h.1, by rw [h.2.1]; exact P1.out⟩)
        have oo : FloatKind.f64.format.order p 4607182418800017408 = some .gt ∨ FloatKind.f64.format.order p 4607182418800017408 = some .eq := by
         have := R2.out
         by_cases h : p = 4607182418800017408
         · exact .inr (by rw [h]; exact oeq _ (by omega))
         · exact .inl (ogt _ _ (by omega) (by omega) (by omega))
        have hs := fun t w => run_float_arith (P := Tryz.prog) w .sub t .f64 p 4607182418800017408 _ c3
        have hm := fun t w => run_float_arith (P := Tryz.prog) w .mul t .f64 _ 4841369599423283200 _ c4
        have hc := fun w => run_convert_float_int (P := Tryz.prog) w 70 136 .f64 .u64 _ (f : Int) (by rw [Tryz.underlying70]; rfl) Tryz.underlying136 c5
        have hk0 : (0 : Int) ≤ (k : Int) := by omega
        have hj0 : (0 : Int) ≤ (j : Int) := by omega
        have C1 := hid c1
        have C2 := hid c2
        generalize F f 1022 = y at *
        generalize F f 1074 = y' at *
        clear c1 c2 c3 c4 c5 hlt
        rcases oo with oo | oo
        all_goals
         go_wp2
         go_ret
         exact ⟨by rw [← top_pos r k j f R3.out P3.out C1.out C2.out]; rfl, rfl⟩
set_option maxRecDepth 100000 in
set_option maxHeartbeats 1600000 in
theorem spec_FloatBits_neg (r : Nat) (h0 : 0 < r) (h1 : r < 9218868437227405312) (w : World) :
 Calls Tryz.prog 86 #[.float .f64 (9223372036854775808 + r)] w fun e w' => e = .returned (.int .u64 ((9223372036854775808 + r : Nat) : Int)) ∧ w' = w := by
 have o1 : FloatKind.f64.format.order (9223372036854775808 + r) (9223372036854775808 + r) = some .eq := order_eq _ _ (by omega) (by omega) ((isN_not _).2 (by omega)) ((isN_not _).2 (by omega)) rfl
 have o2 : FloatKind.f64.format.order (9223372036854775808 + r) 0 = some .lt := order_lt _ _ (by omega) (by omega) ((isN_not _).2 (by omega)) isN_zero (by rw [kx_zero, kx, if_neg (by omega)]; omega)
 have on := neg_run (9223372036854775808 + r) r (neg_bits r (by omega))
 have o3 := ogt r 0 (by omega) (by omega) h0
 have o4 : FloatKind.f64.format.order r 9218868437227405311 = some .lt ∨ FloatKind.f64.format.order r 9218868437227405311 = some .eq := by
  by_cases h : r = 9218868437227405311
  · exact .inr (by rw [h]; exact oeq _ (by omega))
  · exact .inl (olt _ _ (by omega) (by omega) (by omega))
 have H0 := hid h0
 have H1 := hid h1
 clear h0 h1
 rcases o4 with o4 | o4
 all_goals
  go_enter Tryz.func86, Tryz.ntmps86
  go_wp2
  clear o1 o2 o3 o4 on
  go_loopw [4, 5] (fun a e wr => ∃ q k : Nat, a = .float .f64 q ∧ e = .int .i64 k ∧ Hid (r = q + k * 4503599627370496) ∧ Hid (k = 0 ∨ 4607182418800017408 ≤ q) ∧ Hid (k ≤ 1023) ∧ wr = w) (fun a _ _ => fl a)
  case atStart => exact ⟨r, 0, rfl, rfl, hid (by omega), hid (.inl rfl), hid (by omega), rfl⟩
  case round =>
   obtain ⟨q, k, rfl, rfl, P1, P2, P3, rfl⟩ := hrel
   have hq : q < 9218868437227405312 := by have := P1.out; have := H1.out; omega
   by_cases hge : 4611686018427387904 ≤ q
   · obtain ⟨p, hp, ep⟩ : ∃ p, floatBits .quo .f64 q 4611686018427387904 = some p ∧ Hid (q = p + 4503599627370496) := ⟨_, half_r q hge hq, hid (by omega)⟩
     have hd := fun t w => run_float_arith (P := Tryz.prog) w .quo t .f64 q 4611686018427387904 _ hp
     have oo : FloatKind.f64.format.order q 4611686018427387904 = some .gt ∨ FloatKind.f64.format.order q 4611686018427387904 = some .eq := by
      by_cases h : q = 4611686018427387904
      · exact .inr (by rw [h]; exact oeq _ (by omega))
      · exact .inl (ogt _ _ (by omega) (by omega) (by omega))
     have Q1 := hid hge
     have Q2 := hid hq
     have hk : (k : Int) ≤ 1023 := by have := P3.out; omega
     clear hge hq hp
     rcases oo with oo | oo
     all_goals
      go_wp2
      go_roundw
      case rel => exact ⟨p, k + 1, rfl, by go_num, hid (by have := P1.out; have := ep.out; omega), hid (.inr (by have := Q1.out; have := ep.out; omega)), hid (by have := P1.out; have := P3.out; have := Q1.out; have := H1.out; omega), by first | trivial | rfl⟩
      case measure => have := ep.out; simp only [fl]; omega
   · have oo := olt q 4611686018427387904 (by omega) (by omega) (by omega)
     have Q1 := hid hge
     have Q2 := hid hq
     have hk : (k : Int) ≤ 1023 := by have := P3.out; omega
     clear hge hq
     go_wp2
     clear oo
     go_loopw [4, 5] (fun a e wr' => ∃ p j : Nat, a = .float .f64 p ∧ e = .int .i64 ((k : Int) - j) ∧ Hid ((k = 0 ∧ wval p = wval q * 2 ^ j) ∨ (j = 0 ∧ p = q ∧ 4607182418800017408 ≤ q)) ∧ Hid (p < 4611686018427387904) ∧ Hid (j ≤ 1022) ∧ wr' = wr) (fun _ e _ => (intOf e + 1022).toNat)
     case atStart => exact ⟨q, 0, rfl, by go_num, hid (by
      rcases P2.out with h | h
      · exact .inl ⟨h, by rw [Nat.pow_zero, Nat.mul_one]⟩
      · exact .inr ⟨rfl, rfl, h⟩), hid (by have := Q1.out; omega), hid (by omega), rfl⟩
     case round =>
      obtain ⟨p, j, rfl, rfl, R1, R2, R3, rfl⟩ := hrel
      have hj : (j : Int) ≤ 1022 := by have := R3.out; omega
      by_cases hlt : p < 4607182418800017408
      · have R1' : Hid (k = 0 ∧ wval p = wval q * 2 ^ j) := by
         rcases R1.out with h | h
         · exact h
         · exact absurd h.2.2 (by have := h.2.1; omega)
        have ol := olt p 4607182418800017408 (by omega) (by omega) hlt
        have hk0 : (k : Int) = 0 := by have := R1'.out.1; omega
        by_cases h22 : j = 1022
        · obtain ⟨a1, a2, a3⟩ := low_r q p hlt (by have := R1'.out.2; rw [h22] at this; exact this)
          have hm := fun t w => run_float_arith (P := Tryz.prog) w .mul t .f64 p 4841369599423283200 _ a2
          have hc := fun w => run_convert_float_int (P := Tryz.prog) w 70 136 .f64 .u64 _ (q : Int) (by rw [Tryz.underlying70]; rfl) Tryz.underlying136 a3
          have hor := or_neg q (by omega)
          have ht : ¬ (-1022 : Int) < (k : Int) - j := by omega
          have A1 := hid (show r = q by have := P1.out; have := R1'.out.1; subst this; omega)
          generalize F q 1074 = y at *
          clear a1 a2 a3 hlt h22 hk0
          go_wp2
          go_ret
          exact ⟨by rw [A1.out]; rfl, rfl⟩
        · obtain ⟨p', b1, b2, b3⟩ := dbl_r p hlt
          have hm := fun t w => run_float_arith (P := Tryz.prog) w .mul t .f64 p 4611686018427387904 _ b1
          have ht : (-1022 : Int) < (k : Int) - j := by omega
          have B2 := hid b2
          have B3 := hid b3
          have H22 := hid h22
          clear b1 b2 b3 hlt h22 hk0
          go_wp2
          go_roundw
          case rel => exact ⟨p', j + 1, rfl, by go_num, hid (.inl ⟨R1'.out.1, by rw [B2.out, R1'.out.2, Nat.pow_succ, Nat.mul_assoc]⟩), B3, hid (by have := R3.out; have := H22.out; omega), by first | trivial | rfl⟩
          case measure => simp [intOf]; omega
      · obtain ⟨f, c1, c2, c3, c4, c5⟩ := top_r r k j p (by omega) R2.out R3.out (by
         rcases R1.out with h | h
         · refine .inl ⟨h.1, ?_⟩
           have := P1.out
           rw [h.1, Nat.zero_mul, Nat.add_zero] at this
           rw [this]
           exact h.2
         · exact .inr ⟨h.1, by rw [h.2.1]; exact P1.out⟩)
        have oo : FloatKind.f64.format.order p 4607182418800017408 = some .gt ∨ FloatKind.f64.format.order p 4607182418800017408 = some .eq := by
         have := R2.out
         by_cases h : p = 4607182418800017408
         · exact .inr (by rw [h]; exact oeq _ (by omega))
         · exact .inl (ogt _ _ (by omega) (by omega) (by omega))
        have hs := fun t w => run_float_arith (P := Tryz.prog) w .sub t .f64 p 4607182418800017408 _ c3
        have hm := fun t w => run_float_arith (P := Tryz.prog) w .mul t .f64 _ 4841369599423283200 _ c4
        have hc := fun w => run_convert_float_int (P := Tryz.prog) w 70 136 .f64 .u64 _ (f : Int) (by rw [Tryz.underlying70]; rfl) Tryz.underlying136 c5
        have hk0 : (0 : Int) ≤ (k : Int) := by omega
        have hj0 : (0 : Int) ≤ (j : Int) := by omega
        have C1 := hid c1
        have C2 := hid c2
        generalize F f 1022 = y at *
        generalize F f 1074 = y' at *
        clear c1 c2 c3 c4 c5 hlt
        rcases oo with oo | oo
        all_goals
         go_wp2
         go_ret
         exact ⟨by rw [← top_neg r k j f R3.out P3.out C1.out C2.out]; rfl, rfl⟩
theorem spec_FloatBits_rest (x : Nat) (w : World) (hx : x = 0 ∨ x = 9223372036854775808 ∨ x = 9218868437227405312 ∨ x = 18442240474082181120) :
 Calls Tryz.prog 86 #[.float .f64 x] w fun e w' => e = .returned (.int .u64 (x : Int)) ∧ w' = w := by
 have d1 := fun t w => run_float_arith (P := Tryz.prog) w .quo t .f64 4607182418800017408 0 9218868437227405312 (by decide)
 have d2 := fun t w => run_float_arith (P := Tryz.prog) w .quo t .f64 4607182418800017408 9223372036854775808 18442240474082181120 (by decide)
 have o1 : FloatKind.f64.format.order 0 0 = some .eq := by decide
 have o2 : FloatKind.f64.format.order 9223372036854775808 0 = some .eq := by decide
 have o3 : FloatKind.f64.format.order 9218868437227405312 0 = some .gt := by decide
 have o4 : FloatKind.f64.format.order 18442240474082181120 0 = some .lt := by decide
 have o5 : FloatKind.f64.format.order 9223372036854775808 9223372036854775808 = some .eq := by decide
 have o6 : FloatKind.f64.format.order 9218868437227405312 9218868437227405312 = some .eq := by decide
 have o7 : FloatKind.f64.format.order 18442240474082181120 18442240474082181120 = some .eq := by decide
 have o8 : FloatKind.f64.format.order 9218868437227405312 9218868437227405311 = some .gt := by decide
 have n1 := neg_run 9223372036854775808 0 (by decide)
 have n2 := neg_run 18442240474082181120 9218868437227405312 (by decide)
 have b1 : bits .or .u64 0 9218868437227405312 = 9218868437227405312 := or_pos 9218868437227405312 (by omega)
 have b2 : bits .or .u64 9223372036854775808 9218868437227405312 = 18442240474082181120 := or_neg 9218868437227405312 (by omega)
 rcases hx with rfl | rfl | rfl | rfl
 all_goals
  go_enter Tryz.func86, Tryz.ntmps86
  go_wp2
  go_ret
  exact ⟨rfl, rfl⟩
theorem spec_FloatBits_nan (x : Nat) (hx : x < 18446744073709551616) (hn : isN x = true) (w : World) :
 Calls Tryz.prog 86 #[.float .f64 x] w fun e w' => e = .returned (.int .u64 9221120237041090560) ∧ w' = w := by
 have o := order_l x x hx hn
 clear hx hn
 go_enter Tryz.func86, Tryz.ntmps86
 go_wp2
 go_ret
 exact ⟨rfl, rfl⟩
theorem spec_FloatBits (x : Nat) (hx : x < 18446744073709551616) (w : World) :
 Calls Tryz.prog 86 #[.float .f64 x] w fun e w' => e = .returned (.int .u64 (fbits x : Int)) ∧ w' = w := by
 by_cases hn : isN x = true
 · rw [fbits, if_pos hn]
   exact spec_FloatBits_nan x hx hn w
 · have hn' : isN x = false := by simpa using hn
   rw [isN_not] at hn'
   rw [fbits, if_neg hn]
   by_cases h4 : x = 0 ∨ x = 9223372036854775808 ∨ x = 9218868437227405312 ∨ x = 18442240474082181120
   · exact spec_FloatBits_rest x w h4
   · by_cases hp : x < 9223372036854775808
     · exact spec_FloatBits_pos x (by omega) (by omega) w
     · obtain ⟨r, rfl⟩ : ∃ r, x = 9223372036854775808 + r := ⟨x - 9223372036854775808, by omega⟩
       exact spec_FloatBits_neg r (by omega) (by omega) w
end Go.Proofs.YtjcjoabblafboaaGreat
/- The contract of the specification's FloatOf: the float with the bits, or some NaN where they are a NaN's; memory stays as it was. For every argument. -/


namespace Go.Proofs.YtjcjoabblafboaaGreat
open Go.RowKit Ieee
theorem neg_bits' (r : Nat) (h : r < 9223372036854775808) : Op.negFloat .f64 r = 9223372036854775808 + r := by
 unfold Op.negFloat
 rw [show 2 ^ (FloatKind.f64.format.exponentBits + FloatKind.f64.format.fractionBits) = 2 ^ 63 from rfl]
 have e : 9223372036854775808 + r = 2 ^ 63 ||| r := (nat_join 63 _ _ (by decide) (by omega)).symm
 rw [e]
 apply Nat.eq_of_testBit_eq
 intro i
 rw [Nat.testBit_xor, Nat.testBit_or, Nat.testBit_two_pow]
 by_cases hi : 63 = i
 · subst hi
   rw [Nat.testBit_lt_two_pow h]
   rfl
 · simp [hi]
theorem nan_run (op : BinOp) (t : TypeId) (x y : Nat) (ho : op = .add ∨ op = .sub ∨ op = .mul ∨ op = .quo) (h : floatBits op .f64 x y = none) (w : World) : ∃ n, (binOp op t (.float .f64 x) (.float .f64 y)).run Tryz.prog w = .ok (.float .f64 n) w.drew ∧ isN n = true ∧ n < 18446744073709551616 := by
 refine ⟨Question.cut (.nanBits .f64 x y) (w.tape w.drawn (.nanBits .f64 x y)), ?_, ?_, ?_⟩
 · unfold floatBits at h
   rcases ho with rfl | rfl | rfl | rfl <;> simp only at h <;> simp [binOp, Op.floatArith, h, choose, Sem.run, Question.forced]
 · rw [isN_iff]
   simp only [Question.cut]
   have hu := Nat.mod_lt (w.tape w.drawn (.nanBits .f64 x y) / 2) (show 0 < 2 ^ 52 - 1 by decide)
   generalize w.tape w.drawn (.nanBits .f64 x y) / 2 % (2 ^ 52 - 1) = u at *
   rcases Nat.mod_two_eq_zero_or_one (w.tape w.drawn (.nanBits .f64 x y)) with h | h <;> rw [h] <;> omega
 · simp only [Question.cut]
   have hu := Nat.mod_lt (w.tape w.drawn (.nanBits .f64 x y) / 2) (show 0 < 2 ^ 52 - 1 by decide)
   generalize w.tape w.drawn (.nanBits .f64 x y) / 2 % (2 ^ 52 - 1) = u at *
   rcases Nat.mod_two_eq_zero_or_one (w.tape w.drawn (.nanBits .f64 x y)) with h | h <;> rw [h] <;> omega
end Go.Proofs.YtjcjoabblafboaaGreat
/- The contract of the specification's FloatOf: the float with the bits, or some NaN where they are a NaN's; memory stays as it was. For every argument. -/

namespace Go.Proofs.YtjcjoabblafboaaGreat
open Go.RowKit Ieee
structure Fields (b e f : Nat) (s : Bool) : Prop where
 he : e < 2048
 hf : f < 4503599627370496
 hb : b = (if s then 9223372036854775808 else 0) + (e * 4503599627370496 + f)
 a1 : bits .and .u64 ((b : Int) / 4503599627370496) 2047 = (e : Int)
 a2 : bits .and .u64 (b : Int) 4503599627370495 = (f : Int)
 a3 : ((b : Int) / 9223372036854775808 == 1) = s
theorem fields (b : Nat) (h : b < 18446744073709551616) : ∃ e f s, Fields b e f s := by
 refine ⟨b / 4503599627370496 % 2048, b % 4503599627370496, decide (9223372036854775808 ≤ b), by omega, by omega, ?_, ?_, ?_, ?_⟩
 · by_cases hs : 9223372036854775808 ≤ b
   · rw [decide_eq_true hs, if_pos rfl]; omega
   · rw [decide_eq_false hs, if_neg (by simp)]; omega
 · have := u64_and_nat (b / 4503599627370496) 2047 (by omega) (by omega)
   rw [show (2047 : Nat) = 2 ^ 11 - 1 from rfl, Nat.and_two_pow_sub_one_eq_mod] at this
   exact this
 · have := u64_and_nat b 4503599627370495 (by omega) (by omega)
   rw [show (4503599627370495 : Nat) = 2 ^ 52 - 1 from rfl, Nat.and_two_pow_sub_one_eq_mod] at this
   exact this
 · by_cases hs : 9223372036854775808 ≤ b
   · rw [decide_eq_true hs]
     exact beq_iff_eq.2 (by omega)
   · rw [decide_eq_false hs]
     exact beq_eq_false_iff_ne.2 (by omega)
theorem ofint_run (f : Nat) (hf : f < 4503599627370496) (w : World) : (convert 136 70 (.int .u64 (f : Int))).run Tryz.prog w = .ok (.float .f64 (F f 1074)) w := by
 rw [run_convert_int_float w 136 70 .u64 .f64 (f : Int) (by rw [Tryz.underlying136]; rfl) Tryz.underlying70, of_F f (by omega)]
set_option maxHeartbeats 1600000 in
theorem spec_FloatOf_nan (b f : Nat) (s : Bool) (H : Fields b 2047 f s) (h0 : f ≠ 0) (w : World) :
 Calls Tryz.prog 173 #[.int .u64 b] w fun e w' => ∃ y : Nat, e = .returned (.float .f64 y) ∧ isN y = true ∧ y < 18446744073709551616 ∧ Still w w' := by
 have a1 := H.a1
 have a2 := H.a2
 have hof := ofint_run f H.hf
 have hd := fun t w => run_float_arith (P := Tryz.prog) w .quo t .f64 _ 4841369599423283200 _ (cut_F f 1022 (by have := H.hf; omega) (by omega))
 obtain ⟨n, hn, n1, n2⟩ := nan_run .quo 70 0 0 (by simp) (by decide) w
 have hne : ((f : Int) != 0) = true := by simp [h0]
 generalize F f 1074 = y1 at *
 generalize F f 1022 = y2 at *
 clear H h0
 go_enter Tryz.func173, Tryz.ntmps173
 go_wp2
 go_ret
 exact ⟨n, rfl, n1, n2, Still.drew w⟩
set_option maxHeartbeats 1600000 in
theorem spec_FloatOf_inf (b : Nat) (s : Bool) (H : Fields b 2047 0 s) (w : World) :
 Calls Tryz.prog 173 #[.int .u64 b] w fun e w' => e = .returned (.float .f64 b) ∧ w' = w := by
 have a1 : bits .and .u64 ((b : Int) / 4503599627370496) 2047 = 2047 := H.a1
 have a2 : bits .and .u64 (b : Int) 4503599627370495 = 0 := H.a2
 have a3 := H.a3
 have hb := hid H.hb
 have hof : ∀ w, (convert 136 70 (.int .u64 0)).run Tryz.prog w = .ok (.float .f64 (F 0 1074)) w := ofint_run 0 (by omega)
 have hd := fun t w => run_float_arith (P := Tryz.prog) w .quo t .f64 _ 4841369599423283200 _ (cut_F 0 1022 (by omega) (by omega))
 have d1 := fun t w => run_float_arith (P := Tryz.prog) w .quo t .f64 4607182418800017408 0 9218868437227405312 (by decide)
 have n2 := neg_run 9218868437227405312 18442240474082181120 (by decide)
 generalize F 0 1074 = y1 at *
 generalize F 0 1022 = y2 at *
 clear H
 cases s
 · have hb' := hid (show b = 9218868437227405312 by have := hb.out; rw [if_neg (by simp)] at this; omega)
   clear hb
   go_enter Tryz.func173, Tryz.ntmps173
   go_wp2
   go_ret
   exact ⟨by rw [hb'.out]; rfl, rfl⟩
 · have hb' := hid (show b = 18442240474082181120 by have := hb.out; rw [if_pos rfl] at this; omega)
   clear hb
   go_enter Tryz.func173, Tryz.ntmps173
   go_wp2
   go_ret
   exact ⟨by rw [hb'.out]; rfl, rfl⟩
set_option maxRecDepth 100000 in
set_option maxHeartbeats 1600000 in
theorem spec_FloatOf_norm (b e f : Nat) (s : Bool) (H : Fields b e f s) (h0 : 1 ≤ e) (h1 : e ≤ 2046) (w : World) :
 Calls Tryz.prog 173 #[.int .u64 b] w fun e w' => e = .returned (.float .f64 b) ∧ w' = w := by
 have a1 := H.a1
 have a2 := H.a2
 have a3 := H.a3
 have hbp : Hid (s = false → b = e * 4503599627370496 + f) := fun h => by have := H.hb; rw [h, if_neg (by simp), Nat.zero_add] at this; exact this
 have hbn : Hid (s = true → b = 9223372036854775808 + (e * 4503599627370496 + f)) := fun h => by have := H.hb; rw [h, if_pos rfl] at this; exact this
 have hf := H.hf
 have hof := ofint_run f hf
 have hd := fun t w => run_float_arith (P := Tryz.prog) w .quo t .f64 _ 4841369599423283200 _ (cut_F f 1022 (by omega) (by omega))
 have hm := fun t w => run_float_arith (P := Tryz.prog) w .add t .f64 _ 4607182418800017408 _ (more_F f hf)
 have hne : ((e : Int) == 2047) = false := beq_eq_false_iff_ne.2 (by omega)
 have hne0 : ((e : Int) == 0) = false := beq_eq_false_iff_ne.2 (by omega)
 have E0 : (1 : Int) ≤ e := by omega
 have E1 : (e : Int) ≤ 2046 := by omega
 have Hfin : Hid (F (2 ^ 52 + f) (e - 1) = e * 4503599627370496 + f) := by
  have := F_norm (e - 1) f hf (by omega)
  rw [show (e - 1 + 1) * 2 ^ 52 + f = e * 4503599627370496 + f by omega] at this
  exact this
 have Hc : Hid (2 ^ 52 + f < 2 ^ 53) := hid (by omega)
 have He := hid (show e - 1 + 1 = e by omega)
 have HF := hid hf
 have H1 := hid h1
 generalize F f 1074 = y1 at *
 generalize F f 1022 = y2 at *
 generalize 2 ^ 52 + f = c at *
 generalize e - 1 = T at *
 clear H h0 h1 hf
 go_enter Tryz.func173, Tryz.ntmps173
 go_wp2
 clear hof hd hm hne hne0
 go_loopw [6, 7] (fun a k wr => ∃ j : Nat, a = .float .f64 (F c j) ∧ k = .int .i64 ((T : Int) - j) ∧ Hid (1022 ≤ j) ∧ Hid (j ≤ 2045) ∧ wr = w) (fun _ k _ => (intOf k).toNat)
 case atStart => exact ⟨1022, rfl, by have := He.out; go_num, hid (by omega), hid (by omega), rfl⟩
 case round =>
  obtain ⟨j, rfl, rfl, P1, P2, rfl⟩ := hrel
  have hT : (T : Int) ≤ 2045 := by have := He.out; have := H1.out; omega
  have hT0 : (0 : Int) ≤ T := by omega
  have hj0 : (0 : Int) ≤ j := by omega
  have hj1 : (j : Int) ≤ 2045 := by have := P2.out; omega
  by_cases hlt : (0 : Int) < (T : Int) - j
  · have hx := fun t w => run_float_arith (P := Tryz.prog) w .mul t .f64 _ 4611686018427387904 _ (double_F c j Hc.out (by omega))
    go_wp2
    go_roundw
    case rel => exact ⟨j + 1, rfl, by go_num, hid (by have := P1.out; omega), hid (by omega), by first | trivial | rfl⟩
    case measure => simp [intOf]; omega
  · have Q0 := hid (show T ≤ j by omega)
    go_wp2
    go_loopw [6, 7] (fun a k wr' => ∃ i : Nat, a = .float .f64 (F c i) ∧ k = .int .i64 ((T : Int) - i) ∧ Hid (T ≤ i) ∧ Hid (i ≤ 2045) ∧ wr' = wr) (fun _ k _ => (-(intOf k)).toNat)
    case atStart => exact ⟨j, rfl, rfl, Q0, P2, rfl⟩
    case round =>
     obtain ⟨i, rfl, rfl, R1, R2, rfl⟩ := hrel
     have hi0 : (0 : Int) ≤ i := by omega
     have hi1 : (i : Int) ≤ 2045 := by have := R2.out; omega
     by_cases hlt2 : (T : Int) - i < 0
     · obtain ⟨i', hi'⟩ : ∃ i', i = i' + 1 := ⟨i - 1, by omega⟩
       have Hi := hid hi'
       have hx := fun t w => run_float_arith (P := Tryz.prog) w .quo t .f64 (F c i) 4611686018427387904 (F c i') (by rw [hi']; exact half_F c i' Hc.out (by omega))
       clear hi'
       go_wp2
       go_roundw
       case rel => exact ⟨i', rfl, by have := Hi.out; go_num, hid (by have := Hi.out; omega), hid (by have := Hi.out; omega), by first | trivial | rfl⟩
       case measure => have := Hi.out; simp [intOf]; omega
     · have ei := hid (show i = T by have := R1.out; omega)
       have hn := neg_run (F c i) (9223372036854775808 + F c i) (neg_bits' _ (by rw [ei.out, Hfin.out]; have := HF.out; have := He.out; have := H1.out; omega))
       cases s
       · go_wp2
         go_ret
         exact ⟨by rw [show b = F c i by rw [ei.out, Hfin.out, hbp.out (by first | trivial | rfl)]]; rfl, rfl⟩
       · go_wp2
         go_ret
         exact ⟨by rw [show b = 9223372036854775808 + F c i by rw [ei.out, Hfin.out, hbn.out (by first | trivial | rfl)]]; rfl, rfl⟩
set_option maxRecDepth 100000 in
set_option maxHeartbeats 1600000 in
theorem spec_FloatOf_low (b f : Nat) (s : Bool) (H : Fields b 0 f s) (w : World) :
 Calls Tryz.prog 173 #[.int .u64 b] w fun e w' => e = .returned (.float .f64 b) ∧ w' = w := by
 have a1 : bits .and .u64 ((b : Int) / 4503599627370496) 2047 = 0 := H.a1
 have a2 := H.a2
 have a3 := H.a3
 have hbp : Hid (s = false → b = f) := fun h => by have := H.hb; rw [h, if_neg (by simp)] at this; omega
 have hbn : Hid (s = true → b = 9223372036854775808 + f) := fun h => by have := H.hb; rw [h, if_pos rfl] at this; omega
 have hf := H.hf
 have hof := ofint_run f hf
 have hd := fun t w => run_float_arith (P := Tryz.prog) w .quo t .f64 _ 4841369599423283200 _ (cut_F f 1022 (by omega) (by omega))
 have Hfin : Hid (F f 0 = f) := F_sub f hf
 have Hc : Hid (f < 2 ^ 53) := hid (by omega)
 have HF := hid hf
 obtain ⟨T, HT⟩ : ∃ T : Nat, Hid (T = 0) := ⟨0, rfl⟩
 generalize F f 1074 = y1 at *
 clear H hf
 go_enter Tryz.func173, Tryz.ntmps173
 go_wp2
 clear hof hd
 go_loopw [6, 7] (fun a k wr => ∃ j : Nat, a = .float .f64 (F f j) ∧ k = .int .i64 ((T : Int) - j) ∧ Hid (1022 ≤ j) ∧ Hid (j ≤ 2045) ∧ wr = w) (fun _ k _ => (intOf k).toNat)
 case atStart => exact ⟨1022, rfl, by have := HT.out; go_num, hid (by omega), hid (by omega), rfl⟩
 case round =>
  obtain ⟨j, rfl, rfl, P1, P2, rfl⟩ := hrel
  have hT : (T : Int) ≤ 2045 := by have := HT.out; omega
  have hT0 : (0 : Int) ≤ T := by omega
  have hj0 : (0 : Int) ≤ j := by omega
  have hj1 : (j : Int) ≤ 2045 := by have := P2.out; omega
  by_cases hlt : (0 : Int) < (T : Int) - j
  · have hx := fun t w => run_float_arith (P := Tryz.prog) w .mul t .f64 _ 4611686018427387904 _ (double_F f j Hc.out (by omega))
    go_wp2
    go_roundw
    case rel => exact ⟨j + 1, rfl, by go_num, hid (by have := P1.out; omega), hid (by omega), by first | trivial | rfl⟩
    case measure => simp [intOf]; omega
  · have Q0 := hid (show T ≤ j by omega)
    go_wp2
    go_loopw [6, 7] (fun a k wr' => ∃ i : Nat, a = .float .f64 (F f i) ∧ k = .int .i64 ((T : Int) - i) ∧ Hid (T ≤ i) ∧ Hid (i ≤ 2045) ∧ wr' = wr) (fun _ k _ => (-(intOf k)).toNat)
    case atStart => exact ⟨j, rfl, rfl, Q0, P2, rfl⟩
    case round =>
     obtain ⟨i, rfl, rfl, R1, R2, rfl⟩ := hrel
     have hi0 : (0 : Int) ≤ i := by omega
     have hi1 : (i : Int) ≤ 2045 := by have := R2.out; omega
     by_cases hlt2 : (T : Int) - i < 0
     · obtain ⟨i', hi'⟩ : ∃ i', i = i' + 1 := ⟨i - 1, by omega⟩
       have Hi := hid hi'
       have hx := fun t w => run_float_arith (P := Tryz.prog) w .quo t .f64 (F f i) 4611686018427387904 (F f i') (by rw [hi']; exact half_F f i' Hc.out (by omega))
       clear hi'
       go_wp2
       go_roundw
       case rel => exact ⟨i', rfl, by have := Hi.out; go_num, hid (by have := Hi.out; omega), hid (by have := Hi.out; omega), by first | trivial | rfl⟩
       case measure => have := Hi.out; simp [intOf]; omega
     · have ei := hid (show i = T by have := R1.out; omega)
       have hn := neg_run (F f i) (9223372036854775808 + F f i) (neg_bits' _ (by rw [ei.out, HT.out, Hfin.out]; have := HF.out; omega))
       cases s
       · go_wp2
         go_ret
         exact ⟨by rw [show b = F f i by rw [ei.out, HT.out, Hfin.out, hbp.out (by first | trivial | rfl)]]; rfl, rfl⟩
       · go_wp2
         go_ret
         exact ⟨by rw [show b = 9223372036854775808 + F f i by rw [ei.out, HT.out, Hfin.out, hbn.out (by first | trivial | rfl)]]; rfl, rfl⟩
theorem spec_FloatOf (b : Nat) (hb : b < 18446744073709551616) (w : World) :
 Calls Tryz.prog 173 #[.int .u64 b] w fun e w' => ∃ y : Nat, e = .returned (.float .f64 y) ∧ y < 18446744073709551616 ∧ Hid (isN b = false → y = b) ∧ Hid (isN b = isN y) ∧ Still w w' := by
 obtain ⟨e, f, s, H⟩ := fields b hb
 have h1 := H.he
 have h2 := H.hf
 have h3 := H.hb
 have hm : b % 9223372036854775808 = e * 4503599627370496 + f := by
  cases s
  · rw [if_neg (by simp)] at h3; omega
  · rw [if_pos rfl] at h3; omega
 have keep : ∀ w', w' = w → Still w w' := fun w' h => by subst h; exact Still.refl _
 by_cases he : e = 2047
 · subst he
   by_cases hf : f = 0
   · subst hf
     refine (spec_FloatOf_inf b s H w).mono ?_
     rintro x w1 ⟨rfl, e1⟩
     exact ⟨b, rfl, hb, hid (fun _ => rfl), hid rfl, keep w1 e1⟩
   · refine (spec_FloatOf_nan b f s H hf w).mono ?_
     rintro x w1 ⟨y, rfl, n1, n2, st⟩
     have hN : isN b = true := (isN_iff b).2 (by omega)
     exact ⟨y, rfl, n2, hid (fun h => by rw [hN] at h; cases h), hid (by rw [hN, n1]), st⟩
 · by_cases h0 : e = 0
   · subst h0
     refine (spec_FloatOf_low b f s H w).mono ?_
     rintro x w1 ⟨rfl, e1⟩
     exact ⟨b, rfl, hb, hid (fun _ => rfl), hid rfl, keep w1 e1⟩
   · refine (spec_FloatOf_norm b e f s H (by omega) (by omega) w).mono ?_
     rintro x w1 ⟨rfl, e1⟩
     exact ⟨b, rfl, hb, hid (fun _ => rfl), hid rfl, keep w1 e1⟩
end Go.Proofs.YtjcjoabblafboaaGreat
/- One float, all NaNs being one. No statement of its own; no conditions. -/

namespace Go.Proofs.YtjcjoabblafboaaGreat
def Same (x y : Nat) : Prop := (isN x = true ∧ isN y = true) ∨ (isN x = false ∧ y = x)
theorem Same.symm {x y : Nat} (h : Same x y) : Same y x := by
 rcases h with ⟨a, b⟩ | ⟨a, rfl⟩
 · exact .inl ⟨b, a⟩
 · exact .inr ⟨a, rfl⟩
theorem Same.trans {x y z : Nat} (h : Same x y) (k : Same y z) : Same x z := by
 rcases h with ⟨a, b⟩ | ⟨a, rfl⟩
 · rcases k with ⟨c, d⟩ | ⟨c, rfl⟩
   · exact .inl ⟨a, d⟩
   · rw [b] at c; cases c
 · exact k
end Go.Proofs.YtjcjoabblafboaaGreat
/- The contracts of the specification's FloatRank, FloatUnrank and FloatCompare and of the laws' sameFloat; the laws of chapter 2 on FloatBits, FloatOf, FloatRank, FloatUnrank, FloatCompare. For every argument. -/


namespace Go.Proofs.YtjcjoabblafboaaGreat
open Go.RowKit Ieee
theorem sameFloat_walk (x y : Nat) (hx : x < 18446744073709551616) (hy : y < 18446744073709551616) (hs : Same x y) (w : World) :
 Calls Tryz.prog 170 #[.float .f64 x, .float .f64 y] w fun e w' => e = .returned (.bool true) ∧ w' = w := by
 rcases hs with ⟨n1, n2⟩ | ⟨n1, rfl⟩
 · have o1 := order_l x x hx n1
   have o2 := order_l y y hy n2
   clear hx hy n1 n2
   go_enter Tryz.func170, Tryz.ntmps170
   go_wp2
   go_ret
   exact ⟨rfl, rfl⟩
 · have o1 := order_eq y y hx hx n1 n1 rfl
   by_cases h0 : y % 9223372036854775808 = 0
   · have h2 : y = 0 ∨ y = 9223372036854775808 := by omega
     clear hx hy n1 h0
     have d1 := fun t w => run_float_arith (P := Tryz.prog) w .quo t .f64 4607182418800017408 0 9218868437227405312 (by decide)
     have d2 := fun t w => run_float_arith (P := Tryz.prog) w .quo t .f64 4607182418800017408 9223372036854775808 18442240474082181120 (by decide)
     have o3 : FloatKind.f64.format.order 9218868437227405312 0 = some .gt := by decide
     have o4 : FloatKind.f64.format.order 18442240474082181120 0 = some .lt := by decide
     have o5 : FloatKind.f64.format.order 9223372036854775808 0 = some .eq := by decide
     rcases h2 with rfl | rfl
     all_goals
      go_enter Tryz.func170, Tryz.ntmps170
      go_wp2
      go_ret
      exact ⟨rfl, rfl⟩
   · have hm := (isN_not y).1 n1
     have o2 : FloatKind.f64.format.order y 0 = some .lt ∨ FloatKind.f64.format.order y 0 = some .gt := by
      by_cases hp : y < 9223372036854775808
      · exact .inr (order_gt y 0 hx (by omega) n1 isN_zero (by rw [kx_zero, kx, if_pos hp]; omega))
      · exact .inl (order_lt y 0 hx (by omega) n1 isN_zero (by rw [kx_zero, kx, if_neg hp]; omega))
     clear hx hy n1 h0 hm
     rcases o2 with o2 | o2
     all_goals
      go_enter Tryz.func170, Tryz.ntmps170
      go_wp2
      go_ret
      exact ⟨rfl, rfl⟩
theorem or_top (x : Nat) (h : x < 9223372036854775808) : bits .or .u64 (x : Int) 9223372036854775808 = ((x + 9223372036854775808 : Nat) : Int) := by
 have := u64_or_nat x 9223372036854775808 (by omega) (by omega)
 rw [Nat.or_comm, nat_join 63 _ _ (by decide) (by omega), Nat.add_comm] at this
 exact this
theorem spec_FloatRank (x : Nat) (hx : x < 18446744073709551616) (w : World) :
 Calls Tryz.prog 176 #[.float .f64 x] w fun e w' => e = .returned (.int .u64 (frank x)) ∧ w' = w := by
 by_cases hn : isN x = true
 · have ef : frank x = 18446744073709551615 := by rw [frank, if_pos hn]
   have eb : fbits x = 9221120237041090560 := by rw [fbits, if_pos hn]
   go_enter Tryz.func176, Tryz.ntmps176
   go_wp2_with fail
   refine (spec_FloatBits x hx w).mono ?_
   rintro e w1 ⟨rfl, rfl⟩
   rw [eb]
   go_wp2_with fail
   go_ret
   exact ⟨by rw [ef]; rfl, rfl⟩
 · have hn' : isN x = false := by simpa using hn
   have hm := (isN_not x).1 hn'
   have eb : fbits x = x := by rw [fbits, if_neg hn]
   have hne : ((x : Int) == 9221120237041090560) = false := beq_eq_false_iff_ne.2 (by omega)
   by_cases h0 : x % 9223372036854775808 = 0
   · have ef : frank x = 9223372036854775808 := by rw [frank, if_neg hn, if_pos h0]
     have o := order_eq x 0 hx (by omega) hn' isN_zero (by rw [kx_zero, kx]; split <;> omega)
     clear hm h0 hn hn'
     go_enter Tryz.func176, Tryz.ntmps176
     go_wp2_with fail
     refine (spec_FloatBits x hx w).mono ?_
     rintro e w1 ⟨rfl, rfl⟩
     rw [eb]
     go_wp2_with fail
     go_ret
     exact ⟨by rw [ef]; rfl, rfl⟩
   · by_cases hs : x < 9223372036854775808
     · have ef := hid (show frank x = x + 9223372036854775808 by rw [frank, if_neg hn, if_neg h0, if_pos hs])
       have o := order_gt x 0 hx (by omega) hn' isN_zero (by rw [kx_zero, kx]; split <;> omega)
       have ht : ((x : Int) / 9223372036854775808 == 1) = false := beq_eq_false_iff_ne.2 (by omega)
       have hor := or_top x hs
       clear hm h0 hn hn' hs
       go_enter Tryz.func176, Tryz.ntmps176
       go_wp2_with fail
       refine (spec_FloatBits x hx w).mono ?_
       rintro e w1 ⟨rfl, rfl⟩
       rw [eb]
       go_wp2_with fail
       go_ret
       exact ⟨by rw [ef.out]; rfl, rfl⟩
     · have ef := hid (show frank x = 18446744073709551615 - x by rw [frank, if_neg hn, if_neg h0, if_neg hs])
       have o := order_lt x 0 hx (by omega) hn' isN_zero (by rw [kx_zero, kx]; split <;> omega)
       have ht : ((x : Int) / 9223372036854775808 == 1) = true := beq_iff_eq.2 (by omega)
       have hnot := not64 x hx
       clear hm h0 hn hn' hs
       go_enter Tryz.func176, Tryz.ntmps176
       go_wp2_with fail
       refine (spec_FloatBits x hx w).mono ?_
       rintro e w1 ⟨rfl, rfl⟩
       rw [eb]
       go_wp2_with fail
       go_ret
       exact ⟨by rw [ef.out]; rfl, rfl⟩
theorem spec_FloatCompare (x y : Nat) (hx : x < 18446744073709551616) (hy : y < 18446744073709551616) (w : World) :
 Calls Tryz.prog 135 #[.float .f64 x, .float .f64 y] w fun e w' => e = .returned (.int .i64 (cmp3 (frank x) (frank y))) ∧ w' = w := by
 have hrx := spec_FloatRank x hx
 have hry := spec_FloatRank y hy
 generalize frank x = a at *
 generalize frank y = b at *
 rcases Nat.lt_trichotomy a b with h | h | h
 · have ec : cmp3 a b = -1 := by rw [cmp3, if_pos h]
   have h1 : (a : Int) < b := by omega
   clear h
   go_enter Tryz.func135, Tryz.ntmps135
   go_wp2_with fail
   refine (hrx _).mono ?_
   rintro e w1 ⟨rfl, rfl⟩
   go_wp2_with fail
   refine (hry _).mono ?_
   rintro e w1 ⟨rfl, rfl⟩
   go_wp2_with fail
   go_ret
   exact ⟨by rw [ec]; rfl, rfl⟩
 · have ec : cmp3 a b = 0 := by rw [cmp3, if_neg (by omega), if_neg (by omega)]
   subst h
   go_enter Tryz.func135, Tryz.ntmps135
   go_wp2_with fail
   refine (hrx _).mono ?_
   rintro e w1 ⟨rfl, rfl⟩
   go_wp2_with fail
   refine (hry _).mono ?_
   rintro e w1 ⟨rfl, rfl⟩
   go_wp2_with fail
   go_ret
   exact ⟨by rw [ec]; rfl, rfl⟩
 · have ec : cmp3 a b = 1 := by rw [cmp3, if_neg (by omega), if_pos h]
   have h1 : (b : Int) < a := by omega
   clear h
   go_enter Tryz.func135, Tryz.ntmps135
   go_wp2_with fail
   refine (hrx _).mono ?_
   rintro e w1 ⟨rfl, rfl⟩
   go_wp2_with fail
   refine (hry _).mono ?_
   rintro e w1 ⟨rfl, rfl⟩
   go_wp2_with fail
   go_ret
   exact ⟨by rw [ec]; rfl, rfl⟩
end Go.Proofs.YtjcjoabblafboaaGreat
/- Items: what is ItemOk; the contracts of the specification's ItemOk and KeyOk and of the laws' szItem, toItem, eqItem. Conditions: texts of at most 2^21 bytes where memory is made. -/


namespace Go.Proofs.YtjcjoabblafboaaGreat
open Go.RowKit
def okI (K N : Int) (f n : Nat) : Bool := decide (0 ≤ K ∧ K ≤ 3 ∧ n ≤ 40 ∧ (K = 1 ∨ N = 0) ∧ (K = 2 ∨ f = 0) ∧ (K = 3 ∨ n = 0))
theorem fbits_zero (f : Nat) : fbits f = 0 ↔ f = 0 := by
 unfold fbits
 split
 · rename_i h
   constructor
   · intro h'; omega
   · intro h'; subst h'; exact absurd h (by decide)
 · exact Iff.rfl
theorem fbits_ne (f : Nat) (h : f ≠ 0) : ((fbits f : Int) != 0) = true := by
 have := fun e => h ((fbits_zero f).1 e)
 simp
 omega
set_option maxRecDepth 100000 in
set_option maxHeartbeats 1600000 in
theorem spec_ItemOk (K N : Int) (f : Nat) (ad : Option Addr) (n cap : Nat) (hf : f < 18446744073709551616) (hn : n ≤ 2097152) (w : World) :
 Calls Tryz.prog 85 #[.agg #[.int .i64 K, .int .i64 N, .float .f64 f, .slice ad n cap]] w fun e w' => e = .returned (.bool (okI K N f n)) ∧ Below w.heap.size w w' := by
 have hA : Below w.heap.size w (w.alloc (.cells #[.int .i64 K, .int .i64 N, .float .f64 f, .slice ad n cap] 72)) := (Below.refl _ _).alloc (Nat.le_refl _) _
 have HA := hid hA
 clear hA
 by_cases h1 : K < 0
 · rw [show okI K N f n = false from decide_eq_false (by omega)]
   go_enter Tryz.func85, Tryz.ntmps85
   go_wp2
   go_ret
   exact ⟨rfl, HA.out⟩
 by_cases h2 : 3 < K
 · rw [show okI K N f n = false from decide_eq_false (by omega)]
   go_enter Tryz.func85, Tryz.ntmps85
   go_wp2
   go_ret
   exact ⟨rfl, HA.out⟩
 by_cases h3 : 40 < n
 · rw [show okI K N f n = false from decide_eq_false (by omega)]
   have h3' : (40 : Int) < (n : Int) := by omega
   go_enter Tryz.func85, Tryz.ntmps85
   go_wp2
   go_ret
   exact ⟨rfl, HA.out⟩
 have h3' : ¬ (40 : Int) < (n : Int) := by omega
 by_cases h4 : K ≠ 1 ∧ N ≠ 0
 · rw [show okI K N f n = false from decide_eq_false (by omega)]
   have q1 : (K != 1) = true := by simp [h4.1]
   have q2 : (N != 0) = true := by simp [h4.2]
   go_enter Tryz.func85, Tryz.ntmps85
   go_wp2
   go_ret
   exact ⟨rfl, HA.out⟩
 by_cases h5 : K = 1
 · subst h5
   by_cases h6 : f = 0
   · subst h6
     have hz : fbits 0 = 0 := by decide
     by_cases h7 : n = 0
     · subst h7
       rw [show okI 1 N 0 0 = true from decide_eq_true (by omega)]
       go_enter Tryz.func85, Tryz.ntmps85
       go_wp2_with fail
       refine (spec_FloatBits 0 hf _).mono ?_
       rintro e w1 ⟨rfl, rfl⟩
       rw [hz]
       go_wp2_with fail
       go_ret
       exact ⟨rfl, HA.out⟩
     · rw [show okI 1 N 0 n = false from decide_eq_false (by omega)]
       have q7 : ((n : Int) == 0) = false := beq_eq_false_iff_ne.2 (by omega)
       go_enter Tryz.func85, Tryz.ntmps85
       go_wp2_with fail
       refine (spec_FloatBits 0 hf _).mono ?_
       rintro e w1 ⟨rfl, rfl⟩
       rw [hz]
       go_wp2_with fail
       go_ret
       exact ⟨rfl, HA.out⟩
   · rw [show okI 1 N f n = false from decide_eq_false (by omega)]
     have q6 : ((fbits f : Int) != 0) = true := fbits_ne f h6
     go_enter Tryz.func85, Tryz.ntmps85
     go_wp2_with fail
     refine (spec_FloatBits f hf _).mono ?_
     rintro e w1 ⟨rfl, rfl⟩
     go_wp2_with fail
     go_ret
     exact ⟨rfl, HA.out⟩
 have h8 : N = 0 := by omega
 subst h8
 have q1 : (K != 1) = true := by simp [h5]
 by_cases h9 : K = 2
 · subst h9
   by_cases h7 : n = 0
   · subst h7
     rw [show okI 2 0 f 0 = true from decide_eq_true (by omega)]
     go_enter Tryz.func85, Tryz.ntmps85
     go_wp2
     go_ret
     exact ⟨rfl, HA.out⟩
   · rw [show okI 2 0 f n = false from decide_eq_false (by omega)]
     have q7 : ((n : Int) == 0) = false := beq_eq_false_iff_ne.2 (by omega)
     go_enter Tryz.func85, Tryz.ntmps85
     go_wp2
     go_ret
     exact ⟨rfl, HA.out⟩
 have q9 : (K != 2) = true := by simp [h9]
 by_cases h6 : f = 0
 · subst h6
   have hz : fbits 0 = 0 := by decide
   by_cases h7 : K = 3
   · subst h7
     rw [show okI 3 0 0 n = true from decide_eq_true (by omega)]
     go_enter Tryz.func85, Tryz.ntmps85
     go_wp2_with fail
     refine (spec_FloatBits 0 hf _).mono ?_
     rintro e w1 ⟨rfl, rfl⟩
     rw [hz]
     go_wp2_with fail
     go_ret
     exact ⟨rfl, HA.out⟩
   · have h10 : K = 0 := by omega
     subst h10
     by_cases h7 : n = 0
     · subst h7
       rw [show okI 0 0 0 0 = true from decide_eq_true (by omega)]
       go_enter Tryz.func85, Tryz.ntmps85
       go_wp2_with fail
       refine (spec_FloatBits 0 hf _).mono ?_
       rintro e w1 ⟨rfl, rfl⟩
       rw [hz]
       go_wp2_with fail
       go_ret
       exact ⟨rfl, HA.out⟩
     · rw [show okI 0 0 0 n = false from decide_eq_false (by omega)]
       have q7 : ((n : Int) == 0) = false := beq_eq_false_iff_ne.2 (by omega)
       go_enter Tryz.func85, Tryz.ntmps85
       go_wp2_with fail
       refine (spec_FloatBits 0 hf _).mono ?_
       rintro e w1 ⟨rfl, rfl⟩
       rw [hz]
       go_wp2_with fail
       go_ret
       exact ⟨rfl, HA.out⟩
 · rw [show okI K 0 f n = false from decide_eq_false (by omega)]
   have q6 : ((fbits f : Int) != 0) = true := fbits_ne f h6
   go_enter Tryz.func85, Tryz.ntmps85
   go_wp2_with fail
   refine (spec_FloatBits f hf _).mono ?_
   rintro e w1 ⟨rfl, rfl⟩
   go_wp2_with fail
   go_ret
   exact ⟨rfl, HA.out⟩
def okK (K N : Int) (f n : Nat) : Bool := okI K N f n && decide (K ≠ 0 ∧ f ≠ 9223372036854775808)
end Go.Proofs.YtjcjoabblafboaaGreat
/- The contracts of the laws' szItem, toItem, eqItem, and of the specification's KeyOk. Conditions: texts of at most 2^21 bytes where memory is made. -/

namespace Go.Proofs.YtjcjoabblafboaaGreat
open Go.RowKit
structure Box (w : World) (g : Nat) (K N : Int) (f : Nat) (ad : Option Addr) (n cap : Nat) : Prop where
 c0 : w.cell? ⟨g, 0, none⟩ = some (.int .i64 K)
 c1 : w.cell? ⟨g, 1, none⟩ = some (.int .i64 N)
 c2 : w.cell? ⟨g, 2, none⟩ = some (.float .f64 f)
 c3 : w.cell? ⟨g, 3, none⟩ = some (.slice ad n cap)
theorem Box.new (w : World) (K N : Int) (f : Nat) (ad : Option Addr) (n cap : Nat) (t : TypeId) : Box (w.alloc (.cells #[.int .i64 K, .int .i64 N, .float .f64 f, .slice ad n cap] t)) w.heap.size K N f ad n cap := by
 have h := heap_alloc_new w (.cells #[.int .i64 K, .int .i64 N, .float .f64 f, .slice ad n cap] t)
 refine ⟨?_, ?_, ?_, ?_⟩ <;> (rw [cell_of_row _ _ _ _ _ _ h]; rfl)
theorem Box.below {w w' : World} {g : Nat} {K N : Int} {f : Nat} {ad : Option Addr} {n cap : Nat} (b : Box w g K N f ad n cap) {B : Nat} (h : Below B w w') (hB : g < B) : Box w' g K N f ad n cap :=
 ⟨(h.cell (p := ⟨g, 0, none⟩) hB).trans b.c0, (h.cell (p := ⟨g, 1, none⟩) hB).trans b.c1, (h.cell (p := ⟨g, 2, none⟩) hB).trans b.c2, (h.cell (p := ⟨g, 3, none⟩) hB).trans b.c3⟩
set_option maxRecDepth 100000 in
set_option maxHeartbeats 1600000 in
theorem spec_KeyOk (K N : Int) (f : Nat) (ad : Option Addr) (n cap : Nat) (hf : f < 18446744073709551616) (hn : n ≤ 2097152) (w : World) :
 Calls Tryz.prog 40 #[.agg #[.int .i64 K, .int .i64 N, .float .f64 f, .slice ad n cap]] w fun e w' => e = .returned (.bool (okK K N f n)) ∧ Below w.heap.size w w' := by
 have hI := spec_ItemOk K N f ad n cap hf hn
 by_cases hok : okI K N f n = true
 · rw [hok] at hI
   by_cases hK : K = 0
   · rw [show okK K N f n = false by rw [okK, decide_eq_false (by omega), Bool.and_false]]
     have q : (K != 0) = false := by simp [hK]
     clear hK hok
     have hA : Below w.heap.size w (w.alloc (.cells #[.int .i64 K, .int .i64 N, .float .f64 f, .slice ad n cap] 72)) := (Below.refl _ _).alloc (Nat.le_refl _) _
     have hB := Box.new w K N f ad n cap 72
     go_enter Tryz.func40, Tryz.ntmps40
     go_wp2_with fail
     refine (hI _).mono ?_
     rintro e w1 ⟨rfl, b1⟩
     obtain ⟨c0, c1, c2, c3⟩ := hB.below b1 (by simp)
     have HA := hid (hA.trans (b1.mono hA.size))
     clear hA hB b1
     go_wp2_with fail
     go_ret
     exact ⟨rfl, HA.out⟩
   have q : (K != 0) = true := by simp [hK]
   by_cases h0 : f = 0
   · subst h0
     rw [show okK K N 0 n = true by rw [okK, hok, decide_eq_true (by omega)]; rfl]
     have o : FloatKind.f64.format.order 0 0 = some .eq := by decide
     have hz : fbits 0 = 0 := by decide
     clear hK hok
     have hA : Below w.heap.size w (w.alloc (.cells #[.int .i64 K, .int .i64 N, .float .f64 0, .slice ad n cap] 72)) := (Below.refl _ _).alloc (Nat.le_refl _) _
     have hB := Box.new w K N 0 ad n cap 72
     go_enter Tryz.func40, Tryz.ntmps40
     go_wp2_with fail
     refine (hI _).mono ?_
     rintro e w1 ⟨rfl, b1⟩
     obtain ⟨c0, c1, c2, c3⟩ := hB.below b1 (by simp)
     have HA := hid (hA.trans (b1.mono hA.size))
     clear hA hB b1
     go_wp2_with fail
     refine (spec_FloatBits 0 hf _).mono ?_
     rintro e w2 ⟨rfl, rfl⟩
     rw [hz]
     go_wp2_with fail
     go_ret
     exact ⟨rfl, HA.out⟩
   by_cases h1 : f = 9223372036854775808
   · subst h1
     rw [show okK K N 9223372036854775808 n = false by rw [okK, decide_eq_false (by omega), Bool.and_false]]
     have o : FloatKind.f64.format.order 9223372036854775808 0 = some .eq := by decide
     have hz : fbits 9223372036854775808 = 9223372036854775808 := by decide
     clear hK hok
     have hA : Below w.heap.size w (w.alloc (.cells #[.int .i64 K, .int .i64 N, .float .f64 9223372036854775808, .slice ad n cap] 72)) := (Below.refl _ _).alloc (Nat.le_refl _) _
     have hB := Box.new w K N 9223372036854775808 ad n cap 72
     go_enter Tryz.func40, Tryz.ntmps40
     go_wp2_with fail
     refine (hI _).mono ?_
     rintro e w1 ⟨rfl, b1⟩
     obtain ⟨c0, c1, c2, c3⟩ := hB.below b1 (by simp)
     have HA := hid (hA.trans (b1.mono hA.size))
     clear hA hB b1
     go_wp2_with fail
     refine (spec_FloatBits 9223372036854775808 hf _).mono ?_
     rintro e w2 ⟨rfl, rfl⟩
     rw [hz]
     go_wp2_with fail
     go_ret
     exact ⟨rfl, HA.out⟩
   rw [show okK K N f n = true by rw [okK, hok, decide_eq_true (by omega)]; rfl]
   have o : FloatKind.f64.format.order f 0 = some .lt ∨ FloatKind.f64.format.order f 0 = some .gt ∨ FloatKind.f64.format.order f 0 = none := by
    by_cases hN : isN f = true
    · exact .inr (.inr (order_l f 0 hf hN))
    · have hN' : isN f = false := by simpa using hN
      have hm := (isN_not f).1 hN'
      by_cases hp : f < 9223372036854775808
      · exact .inr (.inl (order_gt f 0 hf (by omega) hN' isN_zero (by rw [kx_zero, kx, if_pos hp]; omega)))
      · exact .inl (order_lt f 0 hf (by omega) hN' isN_zero (by rw [kx_zero, kx, if_neg hp]; omega))
   clear hK hok h0 h1
   rcases o with o | o | o
   all_goals
    have hA : Below w.heap.size w (w.alloc (.cells #[.int .i64 K, .int .i64 N, .float .f64 f, .slice ad n cap] 72)) := (Below.refl _ _).alloc (Nat.le_refl _) _
    have hB := Box.new w K N f ad n cap 72
    go_enter Tryz.func40, Tryz.ntmps40
    go_wp2_with fail
    refine (hI _).mono ?_
    rintro e w1 ⟨rfl, b1⟩
    obtain ⟨c0, c1, c2, c3⟩ := hB.below b1 (by simp)
    have HA := hid (hA.trans (b1.mono hA.size))
    clear hA hB b1
    go_wp2_with fail
    go_ret
    exact ⟨rfl, HA.out⟩
 · have hok' : okI K N f n = false := by simpa using hok
   rw [hok'] at hI
   rw [show okK K N f n = false by rw [okK, hok']; rfl]
   clear hok hok'
   have hA : Below w.heap.size w (w.alloc (.cells #[.int .i64 K, .int .i64 N, .float .f64 f, .slice ad n cap] 72)) := (Below.refl _ _).alloc (Nat.le_refl _) _
   have hB := Box.new w K N f ad n cap 72
   go_enter Tryz.func40, Tryz.ntmps40
   go_wp2_with fail
   refine (hI _).mono ?_
   rintro e w1 ⟨rfl, b1⟩
   obtain ⟨c0, c1, c2, c3⟩ := hB.below b1 (by simp)
   have HA := hid (hA.trans (b1.mono hA.size))
   clear hA hB b1
   go_wp2_with fail
   go_ret
   exact ⟨rfl, HA.out⟩
end Go.Proofs.YtjcjoabblafboaaGreat
/- Blocks that are laid one behind the other. No statement of its own; no conditions. -/


namespace Go.Proofs.YtjcjoabblafboaaGreat
open Go.RowKit
theorem alloc_size (w : World) (o : Obj) : (w.alloc o).heap.size = w.heap.size + 1 := by simp
theorem alloc_old (w : World) (o : Obj) (k : Nat) (h : k < w.heap.size) : (w.alloc o).heap[k]? = w.heap[k]? := by
 show (w.heap.push o)[k]? = w.heap[k]?
 rw [Array.getElem?_push, if_neg (by omega)]
theorem three (w : World) (a b c : Obj) :
 (((w.alloc a).alloc b).alloc c).heap.size = w.heap.size + 3 ∧ (((w.alloc a).alloc b).alloc c).heap[w.heap.size + 1]? = some b ∧ (((w.alloc a).alloc b).alloc c).heap[w.heap.size + 1 + 1]? = some c ∧ Below w.heap.size w (((w.alloc a).alloc b).alloc c) := by
 have h1 := alloc_size w a
 have h2 := alloc_size (w.alloc a) b
 have h3 := alloc_size ((w.alloc a).alloc b) c
 refine ⟨by omega, ?_, ?_, (((Below.refl _ _).alloc (Nat.le_refl _) _).alloc (by omega) _).alloc (by omega) _⟩
 · rw [alloc_old _ _ _ (by omega)]
   have := heap_alloc_new (w.alloc a) b
   rwa [h1] at this
 · have := heap_alloc_new ((w.alloc a).alloc b) c
   rwa [h2, h1] at this
theorem two (w : World) (a b : Obj) : Below w.heap.size w ((w.alloc a).alloc b) := ((Below.refl _ _).alloc (Nat.le_refl _) _).alloc (by simp) _
theorem owns_at {w w' : World} {base : Nat} {e : TypeId} {s : Nat} {v : Value} {n : Nat} {xs : List Value} (ho : w.ownsRow base e s v n xs) (h : ∀ k, base ≤ k → w'.heap[k]? = w.heap[k]?) : w'.ownsRow base e s v n xs := by
 refine ⟨ho.1, ?_⟩
 rcases ho.2 with hn | ⟨g, cap, cur, rfl, hbg, hg, rest⟩
 · exact .inl hn
 · exact .inr ⟨g, cap, cur, rfl, hbg, by rw [h g hbg]; exact hg, rest⟩
theorem owns_base {w : World} {base base' : Nat} {e : TypeId} {s : Nat} {v : Value} {n : Nat} {xs : List Value} (h : w.ownsRow base e s v n xs) (hb : base' ≤ base) : w.ownsRow base' e s v n xs := by
 refine ⟨h.1, ?_⟩
 rcases h.2 with hn | ⟨g, cap, cur, rfl, hbg, hg, rest⟩
 · exact .inl hn
 · exact .inr ⟨g, cap, cur, rfl, Nat.le_trans hb hbg, hg, rest⟩
theorem Below.alloc1 (w : World) (o : Obj) : Below w.heap.size w (w.alloc o) := (Below.refl w.heap.size w).alloc (Nat.le_refl _) o
theorem Below.drewN {B : Nat} (w : World) (k : Nat) : Below B w (w.drewN k) := (Still.drewN w k).below B
end Go.Proofs.YtjcjoabblafboaaGreat
/- The contract of the laws' toItem: the same item with a text of its own. Conditions: texts of at most 2^21 bytes. -/



namespace Go.Proofs.YtjcjoabblafboaaGreat
open Go.RowKit
theorem size72 : (Tryz.prog.info? 72).map (·.size) = some 4 := by kernel_rfl
end Go.Proofs.YtjcjoabblafboaaGreat
/- The contracts of the laws' eqItem, markItem and heldItem. Conditions: texts of at most 2^21 bytes. -/

namespace Go.Proofs.YtjcjoabblafboaaGreat
open Go.RowKit
end Go.Proofs.YtjcjoabblafboaaGreat
/- Texts compared: the contract of the specification's l3texts. Conditions: texts of at most 2^21 bytes. -/

namespace Go.Proofs.YtjcjoabblafboaaGreat
open Go.RowKit
def txt : List Int → List Int → Int
 | [], [] => 0
 | [], _ :: _ => -1
 | _ :: _, [] => 1
 | x :: xs, y :: ys => if x < y then -1 else if y < x then 1 else txt xs ys
theorem drop_cons (zs : List Int) (k : Nat) (h : k < zs.length) : zs.drop k = zs.getD k 0 :: zs.drop (k + 1) := by
 rw [List.drop_eq_getElem_cons h]
 simp [List.getD, h]
theorem txt_step (zs ys : List Int) (k : Nat) (h : k < zs.length) (h' : k < ys.length) :
 txt (zs.drop k) (ys.drop k) = if zs.getD k 0 < ys.getD k 0 then -1 else if ys.getD k 0 < zs.getD k 0 then 1 else txt (zs.drop (k + 1)) (ys.drop (k + 1)) := by
 rw [drop_cons zs k h, drop_cons ys k h']
 rfl
theorem txt_end (zs ys : List Int) (k : Nat) (hk : k ≤ zs.length) (hk' : k ≤ ys.length) (h : k = zs.length ∨ k = ys.length) :
 txt (zs.drop k) (ys.drop k) = if zs.length < ys.length then -1 else if ys.length < zs.length then 1 else 0 := by
 by_cases h1 : k = zs.length
 · subst h1
   rw [List.drop_length]
   by_cases h2 : zs.length < ys.length
   · rw [if_pos h2, drop_cons ys _ h2]; rfl
   · rw [if_neg h2, if_neg (by omega), List.drop_eq_nil_of_le (by omega)]; rfl
 · have h2 : k = ys.length := by omega
   subst h2
   rw [List.drop_length, if_neg (by omega), if_pos (by omega), drop_cons zs _ (by omega)]; rfl
set_option maxRecDepth 100000 in
set_option maxHeartbeats 1600000 in
theorem spec_l3texts {ad ad' : Option Addr} {n m : Nat} (cap cap' : Nat) {zs ys : List Int} {w : World} (h : Reads w ad n zs) (h' : Reads w ad' m ys) (hn : n ≤ 2097152) :
 Calls Tryz.prog 136 #[.slice ad n cap, .slice ad' m cap'] w fun e w' => e = .returned (.int .i64 (txt zs ys)) ∧ Still w w' := by
 have hl := h.len
 have hl' := h'.len
 go_enter Tryz.func136, Tryz.ntmps136
 go_wp2
 go_loopw [5] (fun i wr => ∃ k d : Nat, k ≤ n ∧ k ≤ m ∧ i = .int .i64 k ∧ Hid (txt zs ys = txt (zs.drop k) (ys.drop k)) ∧ wr = w.drewN d) (fun i _ => n - (intOf i).toNat)
 case atStart => exact ⟨0, 0, Nat.zero_le _, Nat.zero_le _, rfl, hid rfl, rfl⟩
 case round =>
  obtain ⟨k, d, hk, hk', rfl, HT, rfl⟩ := hrel
  have hk0 : (0 : Int) ≤ (k : Int) := by omega
  by_cases hlt : k < n ∧ k < m
  · obtain ⟨g1, g2⟩ := hlt
    have g1' : (k : Int) < (n : Int) := by omega
    have g2' : (k : Int) < (m : Int) := by omega
    rcases h.cells with h0 | ⟨b, off, rfl, hc⟩
    · omega
    rcases h'.cells with h0 | ⟨b', off', rfl, hc'⟩
    · omega
    have c1 := hc k g1
    have c2 := hc' k g2
    have hb := h.bd k
    have hb' := h'.bd k
    have HS := HT.out
    rw [txt_step zs ys k (by omega) (by omega)] at HS
    generalize zs.getD k 0 = x at *
    generalize ys.getD k 0 = y at *
    have HS' := hid HS
    have G := hid (show k < n ∧ k < m from ⟨g1, g2⟩)
    clear hc hc' HS HT g1 g2
    by_cases e1 : x < y
    · go_wp2
      go_quiet (fail)
      go_wp2
      go_ret
      refine ⟨?_, (Still.drewN _ _).trans (Still.drewN _ _)⟩
      rw [HS'.out, if_pos e1]; rfl
    · by_cases e2 : y < x
      · go_wp2
        go_quiet (fail)
        go_wp2
        go_quiet (fail)
        go_wp2
        go_ret
        refine ⟨?_, ((Still.drewN _ _).trans (Still.drewN _ _)).trans (Still.drewN _ _)⟩
        rw [HS'.out, if_neg (by omega), if_pos e2]; rfl
      · go_wp2
        go_quiet (fail)
        go_wp2
        go_quiet (fail)
        go_wp2
        go_roundw
        case rel => exact ⟨k + 1, _, by have := G.out; omega, by have := G.out; omega, by go_num, hid (by rw [HS'.out, if_neg (by omega), if_neg (by omega)]), rfl⟩
        case measure => have := G.out; simp [intOf]; omega
  · have he := txt_end zs ys k (by omega) (by omega) (by omega)
    rw [hl, hl'] at he
    have HE := hid (HT.out.trans he)
    clear HT he h h' hl hl'
    by_cases g1 : k < n
    · have g2 : ¬ k < m := by omega
      have g1' : (k : Int) < (n : Int) := by omega
      have g2' : ¬ (k : Int) < (m : Int) := by omega
      have q1 : ¬ (n : Int) < (m : Int) := by omega
      have q2 : (m : Int) < (n : Int) := by omega
      rw [if_neg (by omega), if_pos (by omega)] at HE
      go_wp2
      go_ret
      exact ⟨by rw [HE.out]; rfl, Still.drewN _ _⟩
    · have g1' : ¬ (k : Int) < (n : Int) := by omega
      by_cases q : n < m
      · have q1 : (n : Int) < (m : Int) := by omega
        rw [if_pos q] at HE
        go_wp2
        go_ret
        exact ⟨by rw [HE.out]; rfl, Still.drewN _ _⟩
      · have q1 : ¬ (n : Int) < (m : Int) := by omega
        have q2 : ¬ (m : Int) < (n : Int) := by omega
        rw [if_neg q, if_neg (by omega)] at HE
        go_wp2
        go_ret
        exact ⟨by rw [HE.out]; rfl, Still.drewN _ _⟩
def cmpI (K N : Int) (f n : Nat) (zs : List Int) (K' N' : Int) (f' n' : Nat) (zs' : List Int) : Int :=
 if okI K N f n = false ∨ okI K' N' f' n' = false then -2
 else if K ≠ K' then (if K < K' then -1 else 1)
 else if N ≠ N' then (if N < N' then -1 else 1)
 else if cmp3 (frank f) (frank f') ≠ 0 then cmp3 (frank f) (frank f')
 else txt zs zs'
set_option maxRecDepth 100000 in
set_option maxHeartbeats 3200000 in
theorem spec_ItemCompare (K N K' N' : Int) (f f' : Nat) {ad ad' : Option Addr} {n n' : Nat} (cap cap' : Nat) {zs zs' : List Int} {w : World} (hf : f < 18446744073709551616) (hf' : f' < 18446744073709551616)
 (h : Reads w ad n zs) (h' : Reads w ad' n' zs') (hn : n ≤ 2097152) (hn' : n' ≤ 2097152) :
 Calls Tryz.prog 84 #[.agg #[.int .i64 K, .int .i64 N, .float .f64 f, .slice ad n cap], .agg #[.int .i64 K', .int .i64 N', .float .f64 f', .slice ad' n' cap']] w fun e w' => e = .returned (.int .i64 (cmpI K N f n zs K' N' f' n' zs')) ∧ Below w.heap.size w w' := by
 have hB := two w (.cells #[.int .i64 K, .int .i64 N, .float .f64 f, .slice ad n cap] 72) (.cells #[.int .i64 K', .int .i64 N', .float .f64 f', .slice ad' n' cap'] 72)
 have z1 := alloc_size w (.cells #[.int .i64 K, .int .i64 N, .float .f64 f, .slice ad n cap] 72)
 have z2 := alloc_size (w.alloc (.cells #[.int .i64 K, .int .i64 N, .float .f64 f, .slice ad n cap] 72)) (.cells #[.int .i64 K', .int .i64 N', .float .f64 f', .slice ad' n' cap'] 72)
 have x1 := (Box.new w K N f ad n cap 72).below ((Below.refl (w.heap.size + 1) _).alloc (by omega) (.cells #[.int .i64 K', .int .i64 N', .float .f64 f', .slice ad' n' cap'] 72)) (by omega)
 have x2 := Box.new (w.alloc (.cells #[.int .i64 K, .int .i64 N, .float .f64 f, .slice ad n cap] 72)) K' N' f' ad' n' cap' 72
 rw [z1] at x2 z2
 have H1 := h.below hB (Nat.le_refl _)
 have H2 := h'.below hB (Nat.le_refl _)
 have e1 := spec_ItemOk K N f ad n cap hf hn
 have e2 := spec_ItemOk K' N' f' ad' n' cap' hf' hn'
 by_cases o1 : okI K N f n = false
 · rw [show cmpI K N f n zs K' N' f' n' zs' = -2 by rw [cmpI, if_pos (.inl o1)]]
   rw [o1] at e1
   go_enter Tryz.func84, Tryz.ntmps84
   go_wp2_with fail
   refine (e1 _).mono ?_
   rintro e w1 ⟨rfl, b1⟩
   have BB := hid (hB.trans (b1.mono hB.size))
   clear hB b1 H1 H2 x1 x2 z1 z2
   go_wp2_with fail
   go_ret
   exact ⟨rfl, BB.out⟩
 have o1' : okI K N f n = true := by simpa using o1
 rw [o1'] at e1
 by_cases o2 : okI K' N' f' n' = false
 · rw [show cmpI K N f n zs K' N' f' n' zs' = -2 by rw [cmpI, if_pos (.inr o2)]]
   rw [o2] at e2
   go_enter Tryz.func84, Tryz.ntmps84
   go_wp2_with fail
   refine (e1 _).mono ?_
   rintro e w1 ⟨rfl, b1⟩
   have B1 := hB.trans (b1.mono hB.size)
   have y1 := x1.below b1 (by omega)
   have y2 := x2.below b1 (by omega)
   have zz := b1.size
   have h1 := H1.below b1 (Nat.le_refl _)
   have h2 := H2.below b1 (Nat.le_refl _)
   obtain ⟨d0, d1, d2, d3⟩ := y2
   have Y1 := hid y1
   have Y2 := hid (x2.below b1 (by omega))
   have ZZ := hid (show w.heap.size + 1 < w1.heap.size by omega)
   clear hB b1 H1 H2 x1 x2 z1 z2 y1 zz
   go_wp2_with fail
   clear d0 d1 d2 d3
   refine (e2 _).mono ?_
   rintro e w2 ⟨rfl, b2⟩
   have BB := B1.trans (b2.mono B1.size)
   have zz := ZZ.out
   obtain ⟨c0, c1, c2, c3⟩ := Y1.out.below b2 (by omega)
   obtain ⟨d0, d1, d2, d3⟩ := Y2.out.below b2 (by omega)
   have h3 := h1.below b2 (Nat.le_refl _)
   have h4 := h2.below b2 (Nat.le_refl _)
   clear B1 b2 Y1 Y2 ZZ zz h1 h2
   go_wp2_with fail
   go_ret
   exact ⟨rfl, BB⟩
 have o2' : okI K' N' f' n' = true := by simpa using o2
 rw [o2'] at e2
 have ho : ¬ (okI K N f n = false ∨ okI K' N' f' n' = false) := fun h => h.elim o1 o2
 clear o1 o2 o1' o2'
 by_cases k1 : K ≠ K'
 · have q : (K != K') = true := by simp [k1]
   by_cases k2 : K < K'
   · rw [show cmpI K N f n zs K' N' f' n' zs' = -1 by rw [cmpI, if_neg ho, if_pos k1, if_pos k2]]
     clear ho k1
     go_enter Tryz.func84, Tryz.ntmps84
     go_wp2_with fail
     refine (e1 _).mono ?_
     rintro e w1 ⟨rfl, b1⟩
     have B1 := hB.trans (b1.mono hB.size)
     have y1 := x1.below b1 (by omega)
     have y2 := x2.below b1 (by omega)
     have zz := b1.size
     have h1 := H1.below b1 (Nat.le_refl _)
     have h2 := H2.below b1 (Nat.le_refl _)
     obtain ⟨d0, d1, d2, d3⟩ := y2
     have Y1 := hid y1
     have Y2 := hid (x2.below b1 (by omega))
     have ZZ := hid (show w.heap.size + 1 < w1.heap.size by omega)
     clear hB b1 H1 H2 x1 x2 z1 z2 y1 zz
     go_wp2_with fail
     clear d0 d1 d2 d3
     refine (e2 _).mono ?_
     rintro e w2 ⟨rfl, b2⟩
     have BB := B1.trans (b2.mono B1.size)
     have zz := ZZ.out
     obtain ⟨c0, c1, c2, c3⟩ := Y1.out.below b2 (by omega)
     obtain ⟨d0, d1, d2, d3⟩ := Y2.out.below b2 (by omega)
     have h3 := h1.below b2 (Nat.le_refl _)
     have h4 := h2.below b2 (Nat.le_refl _)
     clear B1 b2 Y1 Y2 ZZ zz h1 h2
     go_wp2_with fail
     go_ret
     exact ⟨rfl, BB⟩
   · rw [show cmpI K N f n zs K' N' f' n' zs' = 1 by rw [cmpI, if_neg ho, if_pos k1, if_neg k2]]
     clear ho k1
     go_enter Tryz.func84, Tryz.ntmps84
     go_wp2_with fail
     refine (e1 _).mono ?_
     rintro e w1 ⟨rfl, b1⟩
     have B1 := hB.trans (b1.mono hB.size)
     have y1 := x1.below b1 (by omega)
     have y2 := x2.below b1 (by omega)
     have zz := b1.size
     have h1 := H1.below b1 (Nat.le_refl _)
     have h2 := H2.below b1 (Nat.le_refl _)
     obtain ⟨d0, d1, d2, d3⟩ := y2
     have Y1 := hid y1
     have Y2 := hid (x2.below b1 (by omega))
     have ZZ := hid (show w.heap.size + 1 < w1.heap.size by omega)
     clear hB b1 H1 H2 x1 x2 z1 z2 y1 zz
     go_wp2_with fail
     clear d0 d1 d2 d3
     refine (e2 _).mono ?_
     rintro e w2 ⟨rfl, b2⟩
     have BB := B1.trans (b2.mono B1.size)
     have zz := ZZ.out
     obtain ⟨c0, c1, c2, c3⟩ := Y1.out.below b2 (by omega)
     obtain ⟨d0, d1, d2, d3⟩ := Y2.out.below b2 (by omega)
     have h3 := h1.below b2 (Nat.le_refl _)
     have h4 := h2.below b2 (Nat.le_refl _)
     clear B1 b2 Y1 Y2 ZZ zz h1 h2
     go_wp2_with fail
     go_ret
     exact ⟨rfl, BB⟩
 obtain rfl : K = K' := by simpa using k1
 by_cases m1 : N ≠ N'
 · have q : (N != N') = true := by simp [m1]
   by_cases m2 : N < N'
   · rw [show cmpI K N f n zs K N' f' n' zs' = -1 by rw [cmpI, if_neg ho, if_neg k1, if_pos m1, if_pos m2]]
     clear ho k1 m1
     go_enter Tryz.func84, Tryz.ntmps84
     go_wp2_with fail
     refine (e1 _).mono ?_
     rintro e w1 ⟨rfl, b1⟩
     have B1 := hB.trans (b1.mono hB.size)
     have y1 := x1.below b1 (by omega)
     have y2 := x2.below b1 (by omega)
     have zz := b1.size
     have h1 := H1.below b1 (Nat.le_refl _)
     have h2 := H2.below b1 (Nat.le_refl _)
     obtain ⟨d0, d1, d2, d3⟩ := y2
     have Y1 := hid y1
     have Y2 := hid (x2.below b1 (by omega))
     have ZZ := hid (show w.heap.size + 1 < w1.heap.size by omega)
     clear hB b1 H1 H2 x1 x2 z1 z2 y1 zz
     go_wp2_with fail
     clear d0 d1 d2 d3
     refine (e2 _).mono ?_
     rintro e w2 ⟨rfl, b2⟩
     have BB := B1.trans (b2.mono B1.size)
     have zz := ZZ.out
     obtain ⟨c0, c1, c2, c3⟩ := Y1.out.below b2 (by omega)
     obtain ⟨d0, d1, d2, d3⟩ := Y2.out.below b2 (by omega)
     have h3 := h1.below b2 (Nat.le_refl _)
     have h4 := h2.below b2 (Nat.le_refl _)
     clear B1 b2 Y1 Y2 ZZ zz h1 h2
     go_wp2_with fail
     go_ret
     exact ⟨rfl, BB⟩
   · rw [show cmpI K N f n zs K N' f' n' zs' = 1 by rw [cmpI, if_neg ho, if_neg k1, if_pos m1, if_neg m2]]
     clear ho k1 m1
     go_enter Tryz.func84, Tryz.ntmps84
     go_wp2_with fail
     refine (e1 _).mono ?_
     rintro e w1 ⟨rfl, b1⟩
     have B1 := hB.trans (b1.mono hB.size)
     have y1 := x1.below b1 (by omega)
     have y2 := x2.below b1 (by omega)
     have zz := b1.size
     have h1 := H1.below b1 (Nat.le_refl _)
     have h2 := H2.below b1 (Nat.le_refl _)
     obtain ⟨d0, d1, d2, d3⟩ := y2
     have Y1 := hid y1
     have Y2 := hid (x2.below b1 (by omega))
     have ZZ := hid (show w.heap.size + 1 < w1.heap.size by omega)
     clear hB b1 H1 H2 x1 x2 z1 z2 y1 zz
     go_wp2_with fail
     clear d0 d1 d2 d3
     refine (e2 _).mono ?_
     rintro e w2 ⟨rfl, b2⟩
     have BB := B1.trans (b2.mono B1.size)
     have zz := ZZ.out
     obtain ⟨c0, c1, c2, c3⟩ := Y1.out.below b2 (by omega)
     obtain ⟨d0, d1, d2, d3⟩ := Y2.out.below b2 (by omega)
     have h3 := h1.below b2 (Nat.le_refl _)
     have h4 := h2.below b2 (Nat.le_refl _)
     clear B1 b2 Y1 Y2 ZZ zz h1 h2
     go_wp2_with fail
     go_ret
     exact ⟨rfl, BB⟩
 obtain rfl : N = N' := by simpa using m1
 have ef := spec_FloatCompare f f' hf hf'
 by_cases c1 : cmp3 (frank f) (frank f') ≠ 0
 · rw [show cmpI K N f n zs K N f' n' zs' = cmp3 (frank f) (frank f') by rw [cmpI, if_neg ho, if_neg k1, if_neg m1, if_pos c1]]
   have q : (cmp3 (frank f) (frank f') != 0) = true := by simp [c1]
   generalize cmp3 (frank f) (frank f') = C at *
   clear ho k1 m1 c1
   go_enter Tryz.func84, Tryz.ntmps84
   go_wp2_with fail
   refine (e1 _).mono ?_
   rintro e w1 ⟨rfl, b1⟩
   have B1 := hB.trans (b1.mono hB.size)
   have y1 := x1.below b1 (by omega)
   have y2 := x2.below b1 (by omega)
   have zz := b1.size
   have h1 := H1.below b1 (Nat.le_refl _)
   have h2 := H2.below b1 (Nat.le_refl _)
   obtain ⟨d0, d1, d2, d3⟩ := y2
   have Y1 := hid y1
   have Y2 := hid (x2.below b1 (by omega))
   have ZZ := hid (show w.heap.size + 1 < w1.heap.size by omega)
   clear hB b1 H1 H2 x1 x2 z1 z2 y1 zz
   go_wp2_with fail
   clear d0 d1 d2 d3
   refine (e2 _).mono ?_
   rintro e w2 ⟨rfl, b2⟩
   have BB := B1.trans (b2.mono B1.size)
   have zz := ZZ.out
   obtain ⟨c0, c1, c2, c3⟩ := Y1.out.below b2 (by omega)
   obtain ⟨d0, d1, d2, d3⟩ := Y2.out.below b2 (by omega)
   have h3 := h1.below b2 (Nat.le_refl _)
   have h4 := h2.below b2 (Nat.le_refl _)
   clear B1 b2 Y1 Y2 ZZ zz h1 h2
   go_wp2_with fail
   refine (ef _).mono ?_
   rintro e w3 ⟨rfl, rfl⟩
   go_wp2_with fail
   go_ret
   exact ⟨rfl, BB⟩
 · rw [show cmpI K N f n zs K N f' n' zs' = txt zs zs' by rw [cmpI, if_neg ho, if_neg k1, if_neg m1, if_neg c1]]
   have c1' : cmp3 (frank f) (frank f') = 0 := by simpa using c1
   rw [c1'] at ef
   clear ho k1 m1 c1 c1'
   go_enter Tryz.func84, Tryz.ntmps84
   go_wp2_with fail
   refine (e1 _).mono ?_
   rintro e w1 ⟨rfl, b1⟩
   have B1 := hB.trans (b1.mono hB.size)
   have y1 := x1.below b1 (by omega)
   have y2 := x2.below b1 (by omega)
   have zz := b1.size
   have h1 := H1.below b1 (Nat.le_refl _)
   have h2 := H2.below b1 (Nat.le_refl _)
   obtain ⟨d0, d1, d2, d3⟩ := y2
   have Y1 := hid y1
   have Y2 := hid (x2.below b1 (by omega))
   have ZZ := hid (show w.heap.size + 1 < w1.heap.size by omega)
   clear hB b1 H1 H2 x1 x2 z1 z2 y1 zz
   go_wp2_with fail
   clear d0 d1 d2 d3
   refine (e2 _).mono ?_
   rintro e w2 ⟨rfl, b2⟩
   have BB := B1.trans (b2.mono B1.size)
   have zz := ZZ.out
   obtain ⟨c0, c1, c2, c3⟩ := Y1.out.below b2 (by omega)
   obtain ⟨d0, d1, d2, d3⟩ := Y2.out.below b2 (by omega)
   have h3 := h1.below b2 (Nat.le_refl _)
   have h4 := h2.below b2 (Nat.le_refl _)
   clear B1 b2 Y1 Y2 ZZ zz h1 h2
   go_wp2_with fail
   refine (ef _).mono ?_
   rintro e w3 ⟨rfl, rfl⟩
   go_wp2_with fail
   refine (spec_l3texts cap cap' h3 h4 hn).mono ?_
   rintro e w4 ⟨rfl, st⟩
   go_wp2_with fail
   go_ret
   exact ⟨rfl, BB.trans (st.below _)⟩
end Go.Proofs.YtjcjoabblafboaaGreat
/- The contracts of the laws' markItem and heldItem. Conditions: texts of at most 2^21 bytes. -/

namespace Go.Proofs.YtjcjoabblafboaaGreat
open Go.RowKit
end Go.Proofs.YtjcjoabblafboaaGreat
/- Eight bytes, high first: the contract of the specification's l3high. No conditions. -/

namespace Go.Proofs.YtjcjoabblafboaaGreat
open Go.RowKit
def hb (x j : Nat) : Int := ((x / 2 ^ (8 * (7 - j)) % 256 : Nat) : Int)
end Go.Proofs.YtjcjoabblafboaaGreat
/- An item as bytes: the contracts of the specification's l3bytes. Conditions: texts of at most 2^21 bytes. -/


namespace Go.Proofs.YtjcjoabblafboaaGreat
open Go.RowKit
end Go.Proofs.YtjcjoabblafboaaGreat
/- The contract of the specification's KeyBytes. Conditions: texts of at most 2^21 bytes. -/


namespace Go.Proofs.YtjcjoabblafboaaGreat
open Go.RowKit
end Go.Proofs.YtjcjoabblafboaaGreat
/- The program's ItemOk. -/

namespace Go.Proofs.YtjcjoabblafboaaGreat
open Go.RowKit
set_option maxRecDepth 100000 in
set_option maxHeartbeats 1600000 in
theorem impl_ItemOk (K N : Int) (f : Nat) (ad : Option Addr) (n cap : Nat) (hf : f < 18446744073709551616) (hn : n ≤ 2097152) (w : World) :
 Calls Tryz.prog 123 #[.agg #[.int .i64 K, .int .i64 N, .float .f64 f, .slice ad n cap]] w fun e w' => e = .returned (.bool (okI K N f n)) ∧ Below w.heap.size w w' := by
 have hA : Below w.heap.size w (w.alloc (.cells #[.int .i64 K, .int .i64 N, .float .f64 f, .slice ad n cap] 72)) := (Below.refl _ _).alloc (Nat.le_refl _) _
 have HA := hid hA
 clear hA
 by_cases h1 : K < 0
 · rw [show okI K N f n = false from decide_eq_false (by omega)]
   go_enter Tryz.func123, Tryz.ntmps123
   go_wp2
   go_ret
   exact ⟨rfl, HA.out⟩
 by_cases h2 : 3 < K
 · rw [show okI K N f n = false from decide_eq_false (by omega)]
   go_enter Tryz.func123, Tryz.ntmps123
   go_wp2
   go_ret
   exact ⟨rfl, HA.out⟩
 by_cases h3 : 40 < n
 · rw [show okI K N f n = false from decide_eq_false (by omega)]
   have h3' : (40 : Int) < (n : Int) := by omega
   go_enter Tryz.func123, Tryz.ntmps123
   go_wp2
   go_ret
   exact ⟨rfl, HA.out⟩
 have h3' : ¬ (40 : Int) < (n : Int) := by omega
 by_cases h4 : K ≠ 1 ∧ N ≠ 0
 · rw [show okI K N f n = false from decide_eq_false (by omega)]
   have q1 : (K == 1) = false := by simp [h4.1]
   have q2 : (N == 0) = false := by simp [h4.2]
   go_enter Tryz.func123, Tryz.ntmps123
   go_wp2
   go_ret
   exact ⟨rfl, HA.out⟩
 by_cases h5 : K = 1
 · subst h5
   by_cases h6 : f = 0
   · subst h6
     have hz : fbits 0 = 0 := by decide
     by_cases h7 : n = 0
     · subst h7
       rw [show okI 1 N 0 0 = true from decide_eq_true (by omega)]
       go_enter Tryz.func123, Tryz.ntmps123
       go_wp2_with fail
       refine (impl_FloatBits 0 hf _).mono ?_
       rintro e w1 ⟨rfl, rfl⟩
       rw [hz]
       go_wp2_with fail
       go_ret
       exact ⟨rfl, HA.out⟩
     · rw [show okI 1 N 0 n = false from decide_eq_false (by omega)]
       have q7 : ((n : Int) == 0) = false := beq_eq_false_iff_ne.2 (by omega)
       go_enter Tryz.func123, Tryz.ntmps123
       go_wp2_with fail
       refine (impl_FloatBits 0 hf _).mono ?_
       rintro e w1 ⟨rfl, rfl⟩
       rw [hz]
       go_wp2_with fail
       go_ret
       exact ⟨rfl, HA.out⟩
   · rw [show okI 1 N f n = false from decide_eq_false (by omega)]
     have q6 : ((fbits f : Int) == 0) = false := by have := fbits_ne f h6; simpa using this
     go_enter Tryz.func123, Tryz.ntmps123
     go_wp2_with fail
     refine (impl_FloatBits f hf _).mono ?_
     rintro e w1 ⟨rfl, rfl⟩
     go_wp2_with fail
     go_ret
     exact ⟨rfl, HA.out⟩
 have h8 : N = 0 := by omega
 subst h8
 have q1 : (K == 1) = false := by simp [h5]
 by_cases h9 : K = 2
 · subst h9
   by_cases h7 : n = 0
   · subst h7
     rw [show okI 2 0 f 0 = true from decide_eq_true (by omega)]
     go_enter Tryz.func123, Tryz.ntmps123
     go_wp2
     go_ret
     exact ⟨rfl, HA.out⟩
   · rw [show okI 2 0 f n = false from decide_eq_false (by omega)]
     have q7 : ((n : Int) == 0) = false := beq_eq_false_iff_ne.2 (by omega)
     go_enter Tryz.func123, Tryz.ntmps123
     go_wp2
     go_ret
     exact ⟨rfl, HA.out⟩
 have q9 : (K == 2) = false := by simp [h9]
 by_cases h6 : f = 0
 · subst h6
   have hz : fbits 0 = 0 := by decide
   by_cases h7 : K = 3
   · subst h7
     rw [show okI 3 0 0 n = true from decide_eq_true (by omega)]
     go_enter Tryz.func123, Tryz.ntmps123
     go_wp2_with fail
     refine (impl_FloatBits 0 hf _).mono ?_
     rintro e w1 ⟨rfl, rfl⟩
     rw [hz]
     go_wp2_with fail
     go_ret
     exact ⟨rfl, HA.out⟩
   · have h10 : K = 0 := by omega
     subst h10
     by_cases h7 : n = 0
     · subst h7
       rw [show okI 0 0 0 0 = true from decide_eq_true (by omega)]
       go_enter Tryz.func123, Tryz.ntmps123
       go_wp2_with fail
       refine (impl_FloatBits 0 hf _).mono ?_
       rintro e w1 ⟨rfl, rfl⟩
       rw [hz]
       go_wp2_with fail
       go_ret
       exact ⟨rfl, HA.out⟩
     · rw [show okI 0 0 0 n = false from decide_eq_false (by omega)]
       have q7 : ((n : Int) == 0) = false := beq_eq_false_iff_ne.2 (by omega)
       go_enter Tryz.func123, Tryz.ntmps123
       go_wp2_with fail
       refine (impl_FloatBits 0 hf _).mono ?_
       rintro e w1 ⟨rfl, rfl⟩
       rw [hz]
       go_wp2_with fail
       go_ret
       exact ⟨rfl, HA.out⟩
 · rw [show okI K 0 f n = false from decide_eq_false (by omega)]
   have q6 : ((fbits f : Int) == 0) = false := by have := fbits_ne f h6; simpa using this
   go_enter Tryz.func123, Tryz.ntmps123
   go_wp2_with fail
   refine (impl_FloatBits f hf _).mono ?_
   rintro e w1 ⟨rfl, rfl⟩
   go_wp2_with fail
   go_ret
   exact ⟨rfl, HA.out⟩
end Go.Proofs.YtjcjoabblafboaaGreat
/- The program's KeyOk. -/

namespace Go.Proofs.YtjcjoabblafboaaGreat
open Go.RowKit
theorem fbits_top (f : Nat) : fbits f = 9223372036854775808 ↔ f = 9223372036854775808 := by
 by_cases h : isN f = true
 · rw [fbits, if_pos h]
   constructor
   · intro h'; omega
   · intro h'; subst h'; exact absurd h (by decide)
 · rw [fbits, if_neg h]
set_option maxRecDepth 100000 in
set_option maxHeartbeats 1600000 in
theorem impl_KeyOk (K N : Int) (f : Nat) (ad : Option Addr) (n cap : Nat) (hf : f < 18446744073709551616) (hn : n ≤ 2097152) (w : World) :
 Calls Tryz.prog 95 #[.agg #[.int .i64 K, .int .i64 N, .float .f64 f, .slice ad n cap]] w fun e w' => e = .returned (.bool (okK K N f n)) ∧ Below w.heap.size w w' := by
 have hI := impl_ItemOk K N f ad n cap hf hn
 have hA : Below w.heap.size w (w.alloc (.cells #[.int .i64 K, .int .i64 N, .float .f64 f, .slice ad n cap] 72)) := (Below.refl _ _).alloc (Nat.le_refl _) _
 have hB := Box.new w K N f ad n cap 72
 by_cases hok : okI K N f n = true
 · rw [hok] at hI
   by_cases hK : K = 0
   · rw [show okK K N f n = false by rw [okK, decide_eq_false (by omega), Bool.and_false]]
     have q : (K != 0) = false := by simp [hK]
     clear hK hok
     go_enter Tryz.func95, Tryz.ntmps95
     go_wp2_with fail
     refine (hI _).mono ?_
     rintro e w1 ⟨rfl, b1⟩
     have B := hid (hA.trans (b1.mono hA.size))
     obtain ⟨c0, c1, c2, c3⟩ := hB.below b1 (by simp)
     clear hA b1 hB hI
     go_wp2_with fail
     go_ret
     exact ⟨rfl, B.out⟩
   · have q : (K != 0) = true := by simp [hK]
     by_cases hF : f = 9223372036854775808
     · rw [show okK K N f n = false by rw [okK, decide_eq_false (fun h => h.2 hF), Bool.and_false]]
       have q2 : ((fbits f : Int) != 9223372036854775808) = false := by rw [(fbits_top f).2 hF]; rfl
       clear hK hok hF
       go_enter Tryz.func95, Tryz.ntmps95
       go_wp2_with fail
       refine (hI _).mono ?_
       rintro e w1 ⟨rfl, b1⟩
       have B := hid (hA.trans (b1.mono hA.size))
       obtain ⟨c0, c1, c2, c3⟩ := hB.below b1 (by simp)
       clear hA b1 hB hI
       go_wp2_with fail
       refine (impl_FloatBits f hf _).mono ?_
       rintro e w2 ⟨rfl, rfl⟩
       go_wp2_with fail
       go_ret
       exact ⟨rfl, B.out⟩
     · rw [show okK K N f n = true by rw [okK, hok, decide_eq_true ⟨hK, hF⟩]; rfl]
       have q2 : ((fbits f : Int) != 9223372036854775808) = true := by
        have : ¬ fbits f = 9223372036854775808 := fun e => hF ((fbits_top f).1 e)
        simp only [bne_iff_ne]; omega
       clear hK hok hF
       go_enter Tryz.func95, Tryz.ntmps95
       go_wp2_with fail
       refine (hI _).mono ?_
       rintro e w1 ⟨rfl, b1⟩
       have B := hid (hA.trans (b1.mono hA.size))
       obtain ⟨c0, c1, c2, c3⟩ := hB.below b1 (by simp)
       clear hA b1 hB hI
       go_wp2_with fail
       refine (impl_FloatBits f hf _).mono ?_
       rintro e w2 ⟨rfl, rfl⟩
       go_wp2_with fail
       go_ret
       exact ⟨rfl, B.out⟩
 · have hok' : okI K N f n = false := by simpa using hok
   rw [show okK K N f n = false by rw [okK, hok', Bool.false_and]]
   rw [hok'] at hI
   clear hok hok'
   go_enter Tryz.func95, Tryz.ntmps95
   go_wp2_with fail
   refine (hI _).mono ?_
   rintro e w1 ⟨rfl, b1⟩
   have B := hid (hA.trans (b1.mono hA.size))
   clear hA b1 hB hI
   go_wp2_with fail
   go_ret
   exact ⟨rfl, B.out⟩
end Go.Proofs.YtjcjoabblafboaaGreat
/- Bytes as strings: what the conversion gives. No conditions. -/



namespace Go.Proofs.YtjcjoabblafboaaGreat
open Go.RowKit
def str (zs : List Int) : ByteArray := ⟨(zs.map fun n => UInt8.ofNat n.toNat).toArray⟩
theorem Reads.str {w : World} {ad : Option Addr} {n : Nat} {zs : List Int} (h : Reads w ad n zs) (cap : Nat) (src : TypeId) (hs : Tryz.prog.underlying src = some (.slice 5)) (he : Tryz.prog.underlying 5 = some (.int .u8)) (hd : Tryz.prog.underlying 9 = some .string) :
 (convert src 9 (.slice ad n cap)).run Tryz.prog w = .ok (.string (str zs)) w := by
 have hl := h.len
 rcases h.cells with h0 | ⟨b, off, rfl, hc⟩
 · subst h0
   have hz : zs = [] := List.length_eq_zero_iff.1 hl
   subst hz
   cases ad with
   | none => exact run_convert_bytes_nil w src 5 hs he 0 cap 9 hd
   | some a =>
    rw [run_convert_bytes_string w src 9 5 _ 0 cap hs he hd, run_bytesToString w a 0 cap [] (by simp [loadCells, loadCellsFrom])]
    rfl
 · exact run_convert_bytes_arg w src 5 hs he b off n cap zs hl hc 9 hd
end Go.Proofs.YtjcjoabblafboaaGreat
/- Bytes as strings: what the conversion gives, and how two such strings are held against each other. -/




namespace Go.Proofs.YtjcjoabblafboaaGreat
open Go.RowKit
def us (zs : List Int) : List UInt8 := zs.map fun n => UInt8.ofNat n.toNat
def inB (zs : List Int) : Prop := ∀ i, 0 ≤ zs.getD i 0 ∧ zs.getD i 0 ≤ 255
theorem str_list (zs : List Int) : (str zs).toList = us zs := by
 rw [ByteArray.toList_eq]
 rfl
theorem inB.head {x : Int} {xs : List Int} (h : inB (x :: xs)) : 0 ≤ x ∧ x ≤ 255 := h 0
theorem inB.tail {x : Int} {xs : List Int} (h : inB (x :: xs)) : inB xs := fun i => h (i + 1)
theorem u8_lt (x y : Int) (hx : 0 ≤ x ∧ x ≤ 255) (hy : 0 ≤ y ∧ y ≤ 255) : (UInt8.ofNat x.toNat < UInt8.ofNat y.toNat) ↔ x < y := by
 rw [UInt8.lt_iff_toNat_lt, UInt8.toNat_ofNat', UInt8.toNat_ofNat']
 omega
theorem u8_eq (x y : Int) (hx : 0 ≤ x ∧ x ≤ 255) (hy : 0 ≤ y ∧ y ≤ 255) : (UInt8.ofNat x.toNat = UInt8.ofNat y.toNat) ↔ x = y := by
 rw [← UInt8.toNat_inj, UInt8.toNat_ofNat', UInt8.toNat_ofNat']
 omega
theorem less_txt : ∀ (zs ys : List Int), inB zs → inB ys → Op.bytesLess (us zs) (us ys) = decide (txt zs ys = -1)
 | [], [], _, _ => rfl
 | [], _ :: _, _, _ => rfl
 | _ :: _, [], _, _ => rfl
 | x :: xs, y :: ys, hx, hy => by
  have ih := less_txt xs ys hx.tail hy.tail
  show (decide (UInt8.ofNat x.toNat < UInt8.ofNat y.toNat) || (UInt8.ofNat x.toNat == UInt8.ofNat y.toNat && Op.bytesLess (us xs) (us ys))) = _
  rw [ih]
  have e1 := u8_lt x y hx.head hy.head
  have e2 := u8_eq x y hx.head hy.head
  show _ = decide ((if x < y then -1 else if y < x then 1 else txt xs ys) = -1)
  by_cases h1 : x < y
  · rw [if_pos h1, decide_eq_true (e1.2 h1)]; rfl
  · rw [if_neg h1, decide_eq_false (fun h => h1 (e1.1 h))]
    by_cases h2 : y < x
    · rw [if_pos h2, beq_eq_false_iff_ne.2 (fun h => by have := e2.1 h; omega)]; rfl
    · rw [if_neg h2, beq_iff_eq.2 (e2.2 (by omega))]; simp
theorem eq_txt : ∀ (zs ys : List Int), inB zs → inB ys → (us zs == us ys) = decide (txt zs ys = 0)
 | [], [], _, _ => rfl
 | [], _ :: _, _, _ => rfl
 | _ :: _, [], _, _ => rfl
 | x :: xs, y :: ys, hx, hy => by
  have ih := eq_txt xs ys hx.tail hy.tail
  show (UInt8.ofNat x.toNat == UInt8.ofNat y.toNat && (us xs == us ys)) = _
  rw [ih]
  have e2 := u8_eq x y hx.head hy.head
  show _ = decide ((if x < y then -1 else if y < x then 1 else txt xs ys) = 0)
  by_cases h1 : x < y
  · rw [if_pos h1, beq_eq_false_iff_ne.2 (fun h => by have := e2.1 h; omega)]; rfl
  · rw [if_neg h1]
    by_cases h2 : y < x
    · rw [if_pos h2, beq_eq_false_iff_ne.2 (fun h => by have := e2.1 h; omega)]; rfl
    · rw [if_neg h2, beq_iff_eq.2 (e2.2 (by omega))]; simp
theorem txt_zero : ∀ (zs ys : List Int), txt zs ys = 0 ↔ zs = ys
 | [], [] => by simp [txt]
 | [], _ :: _ => by simp [txt]
 | _ :: _, [] => by simp [txt]
 | x :: xs, y :: ys => by
  have ih := txt_zero xs ys
  rw [txt]
  by_cases h1 : x < y
  · rw [if_pos h1]
    constructor
    · intro h; omega
    · intro h; have := (List.cons.inj h).1; omega
  · rw [if_neg h1]
    by_cases h2 : y < x
    · rw [if_pos h2]
      constructor
      · intro h; omega
      · intro h; have := (List.cons.inj h).1; omega
    · rw [if_neg h2, ih]
      have : x = y := by omega
      subst this
      simp
theorem txt_range : ∀ (zs ys : List Int), txt zs ys = -1 ∨ txt zs ys = 0 ∨ txt zs ys = 1
 | [], [] => .inr (.inl rfl)
 | [], _ :: _ => .inl rfl
 | _ :: _, [] => .inr (.inr rfl)
 | x :: xs, y :: ys => by
  have ih := txt_range xs ys
  rw [txt]
  by_cases h1 : x < y
  · rw [if_pos h1]; exact .inl rfl
  · rw [if_neg h1]
    by_cases h2 : y < x
    · rw [if_pos h2]; exact .inr (.inr rfl)
    · rw [if_neg h2]; exact ih
end Go.Proofs.YtjcjoabblafboaaGreat
/- The program's compareOrdered, at numbers and at texts, and the library's Or. -/

namespace Go.Proofs.YtjcjoabblafboaaGreat
open Go.RowKit
def ci (x y : Int) : Int := if x < y then -1 else if y < x then 1 else 0
set_option maxRecDepth 100000 in
theorem impl_ordInt (x y : Int) (w : World) :
 Calls Tryz.prog 91 #[.int .i64 x, .int .i64 y] w fun e w' => e = .returned (.int .i64 (ci x y)) ∧ w' = w := by
 by_cases h1 : x < y
 · rw [show ci x y = -1 by rw [ci, if_pos h1]]
   go_enter Tryz.func91, Tryz.ntmps91
   go_wp2
   go_ret
   exact ⟨rfl, rfl⟩
 · by_cases h2 : y < x
   · rw [show ci x y = 1 by rw [ci, if_neg h1, if_pos h2]]
     go_enter Tryz.func91, Tryz.ntmps91
     go_wp2
     go_ret
     exact ⟨rfl, rfl⟩
   · rw [show ci x y = 0 by rw [ci, if_neg h1, if_neg h2]]
     go_enter Tryz.func91, Tryz.ntmps91
     go_wp2
     go_ret
     exact ⟨rfl, rfl⟩
set_option maxRecDepth 100000 in
theorem impl_ordStr (zs ys : List Int) (hz : inB zs) (hy : inB ys) (w : World) :
 Calls Tryz.prog 125 #[.string (str zs), .string (str ys)] w fun e w' => e = .returned (.int .i64 (txt zs ys)) ∧ w' = w := by
 have e1 := less_txt zs ys hz hy
 have e2 := eq_txt zs ys hz hy
 rw [← str_list, ← str_list] at e1 e2
 have hr := txt_range zs ys
 generalize str zs = s at *
 generalize str ys = t at *
 clear hz hy
 rcases hr with hr | hr | hr
 · rw [hr] at e1 e2 ⊢
   rw [show decide ((-1 : Int) = -1) = true from rfl] at e1
   clear e2 hr
   go_enter Tryz.func125, Tryz.ntmps125
   go_wp2
   go_ret
   exact ⟨rfl, rfl⟩
 · rw [hr] at e1 e2 ⊢
   rw [show decide ((0 : Int) = -1) = false from rfl] at e1
   rw [show decide ((0 : Int) = 0) = true from rfl] at e2
   clear hr
   go_enter Tryz.func125, Tryz.ntmps125
   go_wp2
   go_ret
   exact ⟨rfl, rfl⟩
 · rw [hr] at e1 e2 ⊢
   rw [show decide ((1 : Int) = -1) = false from rfl] at e1
   rw [show decide ((1 : Int) = 0) = false from rfl] at e2
   clear hr
   go_enter Tryz.func125, Tryz.ntmps125
   go_wp2
   go_ret
   exact ⟨rfl, rfl⟩
theorem upto {p : Nat → Prop} {k : Nat} (h : ∀ j, j < k → p j) (hk : p k) : ∀ j, j < k + 1 → p j := by
 intro j hj
 by_cases e : j = k
 · subst e; exact hk
 · exact h j (by omega)
def or4 (a b c d : Int) : Int := if a ≠ 0 then a else if b ≠ 0 then b else if c ≠ 0 then c else d
set_option maxRecDepth 100000 in
set_option maxHeartbeats 1600000 in
theorem cmp_or (a b c d : Int) (g : Nat) (w : World) (c0 : w.cell? ⟨g, 0, none⟩ = some (.int .i64 a)) (c1 : w.cell? ⟨g, 1, none⟩ = some (.int .i64 b)) (c2 : w.cell? ⟨g, 2, none⟩ = some (.int .i64 c)) (c3 : w.cell? ⟨g, 3, none⟩ = some (.int .i64 d)) :
 Calls Tryz.prog 90 #[.slice (some ⟨g, 0, none⟩) 4 4] w fun e w' => e = .returned (.int .i64 (or4 a b c d)) ∧ w' = w := by
 have hc : ∀ k : Nat, k < 4 → w.cell? ⟨g, k, none⟩ = some (.int .i64 ([a, b, c, d].getD k 0)) := by
  intro k hk
  match k, hk with
  | 0, _ => exact c0
  | 1, _ => exact c1
  | 2, _ => exact c2
  | 3, _ => exact c3
 have hor : ∀ k : Nat, k < 4 → (∀ j, j < k → [a, b, c, d].getD j 0 = 0) → [a, b, c, d].getD k 0 ≠ 0 → [a, b, c, d].getD k 0 = or4 a b c d := by
  intro k hk h0 h1
  unfold or4
  match k, hk with
  | 0, _ => simp at h1; simp [h1]
  | 1, _ => have := h0 0 (by omega); simp at h1 this; simp [h1, this]
  | 2, _ => have := h0 0 (by omega); have := h0 1 (by omega); simp at *; simp_all
  | 3, _ => have := h0 0 (by omega); have := h0 1 (by omega); have := h0 2 (by omega); simp at *; simp_all
 have hend : (∀ j, j < 4 → [a, b, c, d].getD j 0 = 0) → or4 a b c d = 0 := by
  intro h
  have h0 := h 0 (by omega)
  have h1 := h 1 (by omega)
  have h2 := h 2 (by omega)
  have h3 := h 3 (by omega)
  simp at h0 h1 h2 h3
  simp [or4, h0, h1, h2, h3]
 generalize or4 a b c d = o at *
 generalize [a, b, c, d] = xs at *
 have HO := hid hor
 have HE := hid hend
 clear c0 c1 c2 c3 hor hend
 go_enter Tryz.func90, Tryz.ntmps90
 go_wp2
 go_loopw [8] (fun i wr => ∃ k : Nat, k ≤ 4 ∧ i = .int .i64 k ∧ Hid (∀ j, j < k → xs.getD j 0 = 0) ∧ wr = w) (fun i _ => 4 - (intOf i).toNat)
 case atStart => exact ⟨0, by omega, rfl, hid (fun j hj => by omega), rfl⟩
 case round =>
  obtain ⟨k, hk, rfl, HZ, rfl⟩ := hrel
  by_cases hlt : k < 4
  · have c1 := hc k hlt
    have hlt' : (k : Int) < 4 := by omega
    have hk0 : (0 : Int) ≤ (k : Int) := by omega
    have HO1 := hid (HO.out k hlt HZ.out)
    obtain ⟨y, hy⟩ : ∃ y, xs.getD k 0 = y := ⟨_, rfl⟩
    rw [hy] at c1 HO1
    have HY := hid hy
    clear hy hc
    by_cases h0 : y = 0
    · subst h0
      go_wp2
      go_roundw
      case rel => exact ⟨k + 1, by omega, by go_num, hid (upto (p := fun j => xs.getD j 0 = 0) HZ.out HY.out), by first | trivial | rfl⟩
      case measure => simp [intOf]; omega
    · have q : (y != 0) = true := by simp [h0]
      have HQ := hid (HO1.out h0)
      go_wp2
      go_ret
      exact ⟨by rw [HQ.out]; rfl, rfl⟩
  · have hk4 : k = 4 := by omega
    subst hk4
    have HQ := hid (HE.out HZ.out)
    go_wp2
    go_ret
    exact ⟨by rw [HQ.out]; rfl, rfl⟩
end Go.Proofs.YtjcjoabblafboaaGreat
/- The program's ItemCompare. -/



namespace Go.Proofs.YtjcjoabblafboaaGreat
open Go.RowKit
theorem cell_oldx {w : World} (o : Obj) {p : Addr} {v : Value} (h : w.cell? p = some v) : (w.alloc o).cell? p = some v := by
 have hl := World.block_lt_of_cell? w _ h
 have hb : Below w.heap.size w (w.alloc o) := (Below.refl _ _).alloc (Nat.le_refl _) _
 rw [hb.cell hl]; exact h
theorem new4 (w : World) (a b c d : Value) (t : TypeId) : (w.alloc (.cells #[a, b, c, d] t)).cell? ⟨w.heap.size, 0, none⟩ = some a ∧ (w.alloc (.cells #[a, b, c, d] t)).cell? ⟨w.heap.size, 1, none⟩ = some b ∧ (w.alloc (.cells #[a, b, c, d] t)).cell? ⟨w.heap.size, 2, none⟩ = some c ∧ (w.alloc (.cells #[a, b, c, d] t)).cell? ⟨w.heap.size, 3, none⟩ = some d := by
 have h := heap_alloc_new w (.cells #[a, b, c, d] t)
 refine ⟨?_, ?_, ?_, ?_⟩ <;> (rw [cell_of_row _ _ _ _ _ _ h]; rfl)
theorem or_cmp (K N K' N' : Int) (f f' n n' : Nat) (zs zs' : List Int) (h : okI K N f n = true) (h' : okI K' N' f' n' = true) :
 or4 (ci K K') (ci N N') (cmp3 (frank f) (frank f')) (txt zs zs') = cmpI K N f n zs K' N' f' n' zs' := by
 have c0 : ¬ (okI K N f n = false ∨ okI K' N' f' n' = false) := by rw [h, h']; simp
 unfold or4 cmpI
 rw [if_neg c0]
 rcases Int.lt_trichotomy K K' with h1 | h1 | h1
 · rw [show ci K K' = -1 by rw [ci, if_pos h1], if_pos (by decide), if_pos (by omega), if_pos h1]
 · rw [show ci K K' = 0 by rw [ci, if_neg (by omega), if_neg (by omega)], if_neg (by decide), if_neg (show ¬ K ≠ K' from fun e => e h1)]
   rcases Int.lt_trichotomy N N' with h2 | h2 | h2
   · rw [show ci N N' = -1 by rw [ci, if_pos h2], if_pos (by decide), if_pos (by omega), if_pos h2]
   · rw [show ci N N' = 0 by rw [ci, if_neg (by omega), if_neg (by omega)], if_neg (by decide), if_neg (show ¬ N ≠ N' from fun e => e h2)]
   · rw [show ci N N' = 1 by rw [ci, if_neg (by omega), if_pos h2], if_pos (by decide), if_pos (by omega), if_neg (by omega)]
 · rw [show ci K K' = 1 by rw [ci, if_neg (by omega), if_pos h1], if_pos (by decide), if_pos (by omega), if_neg (by omega)]
set_option maxRecDepth 100000 in
set_option maxHeartbeats 3200000 in
theorem impl_ItemCompare (K N K' N' : Int) (f f' : Nat) {ad ad' : Option Addr} {n n' : Nat} (cap cap' : Nat) {zs zs' : List Int} {w : World} (hf : f < 18446744073709551616) (hf' : f' < 18446744073709551616)
 (h : Reads w ad n zs) (h' : Reads w ad' n' zs') (hn : n ≤ 2097152) (hn' : n' ≤ 2097152) :
 Calls Tryz.prog 73 #[.agg #[.int .i64 K, .int .i64 N, .float .f64 f, .slice ad n cap], .agg #[.int .i64 K', .int .i64 N', .float .f64 f', .slice ad' n' cap']] w fun e w' => e = .returned (.int .i64 (cmpI K N f n zs K' N' f' n' zs')) ∧ Below w.heap.size w w' := by
 have hB := two w (.cells #[.int .i64 K, .int .i64 N, .float .f64 f, .slice ad n cap] 72) (.cells #[.int .i64 K', .int .i64 N', .float .f64 f', .slice ad' n' cap'] 72)
 have z1 := alloc_size w (.cells #[.int .i64 K, .int .i64 N, .float .f64 f, .slice ad n cap] 72)
 have z2 := alloc_size (w.alloc (.cells #[.int .i64 K, .int .i64 N, .float .f64 f, .slice ad n cap] 72)) (.cells #[.int .i64 K', .int .i64 N', .float .f64 f', .slice ad' n' cap'] 72)
 have x1 := (Box.new w K N f ad n cap 72).below ((Below.refl (w.heap.size + 1) _).alloc (by omega) (.cells #[.int .i64 K', .int .i64 N', .float .f64 f', .slice ad' n' cap'] 72)) (by omega)
 have x2 := Box.new (w.alloc (.cells #[.int .i64 K, .int .i64 N, .float .f64 f, .slice ad n cap] 72)) K' N' f' ad' n' cap' 72
 rw [z1] at x2 z2
 have H1 := h.below hB (Nat.le_refl _)
 have H2 := h'.below hB (Nat.le_refl _)
 have e1 := impl_ItemOk K N f ad n cap hf hn
 have e2 := impl_ItemOk K' N' f' ad' n' cap' hf' hn'
 by_cases o1 : okI K N f n = false
 · rw [show cmpI K N f n zs K' N' f' n' zs' = -2 by rw [cmpI, if_pos (.inl o1)]]
   rw [o1] at e1
   go_enter Tryz.func73, Tryz.ntmps73
   go_wp2_with fail
   refine (e1 _).mono ?_
   rintro e w1 ⟨rfl, b1⟩
   have BB := hid (hB.trans (b1.mono hB.size))
   clear hB b1 H1 H2 x1 x2 z1 z2
   go_wp2_with fail
   go_ret
   exact ⟨rfl, BB.out⟩
 have o1' : okI K N f n = true := by simpa using o1
 rw [o1'] at e1
 by_cases o2 : okI K' N' f' n' = false
 · rw [show cmpI K N f n zs K' N' f' n' zs' = -2 by rw [cmpI, if_pos (.inr o2)]]
   rw [o2] at e2
   go_enter Tryz.func73, Tryz.ntmps73
   go_wp2_with fail
   refine (e1 _).mono ?_
   rintro e w1 ⟨rfl, b1⟩
   have B1 := hB.trans (b1.mono hB.size)
   have y2 := x2.below b1 (by omega)
   obtain ⟨d0, d1, d2, d3⟩ := y2
   clear hB b1 H1 H2 x1 x2 z1 z2
   go_wp2_with fail
   clear d0 d1 d2 d3
   refine (e2 _).mono ?_
   rintro e w2 ⟨rfl, b2⟩
   have BB := hid (B1.trans (b2.mono B1.size))
   clear b2 B1
   go_wp2_with fail
   go_ret
   exact ⟨rfl, BB.out⟩
 have o2' : okI K' N' f' n' = true := by simpa using o2
 rw [o2'] at e2
 rw [← or_cmp K N K' N' f f' n n' zs zs' o1' o2']
 clear o1 o2 o1' o2'
 go_enter Tryz.func73, Tryz.ntmps73
 go_wp2_with fail
 refine (e1 _).mono ?_
 rintro e w1 ⟨rfl, b1⟩
 have B1 := hB.trans (b1.mono hB.size)
 have y1 := x1.below b1 (by omega)
 have y2 := x2.below b1 (by omega)
 have zz := b1.size
 have h1 := H1.below b1 (Nat.le_refl _)
 have h2 := H2.below b1 (Nat.le_refl _)
 obtain ⟨d0, d1, d2, d3⟩ := y2
 have Y1 := hid y1
 have Y2 := hid (x2.below b1 (by omega))
 have ZZ := hid (show w.heap.size + 1 < w1.heap.size by omega)
 clear hB b1 H1 H2 x1 x2 z1 z2 y1 zz
 go_wp2_with fail
 clear d0 d1 d2 d3
 refine (e2 _).mono ?_
 rintro e w2 ⟨rfl, b2⟩
 have BB := B1.trans (b2.mono B1.size)
 have h3 := h1.below b2 (Nat.le_refl _)
 have h4 := h2.below b2 (Nat.le_refl _)
 have z := ZZ.out
 obtain ⟨c0, c1, c2, c3⟩ := Y1.out.below b2 (by omega)
 obtain ⟨d0, d1, d2, d3⟩ := Y2.out.below b2 (by omega)
 have ZB := b2.size
 have ZZ2 := hid (show w.heap.size + 1 < w2.heap.size by omega)
 have s1 : ∀ W, Below w2.heap.size w2 W → (convert 22 9 (.slice ad n cap)).run Tryz.prog W = .ok (.string (str zs)) W := fun W b => (h3.below b (Nat.le_refl _)).str cap 22 Tryz.underlying22 Tryz.underlying5 Tryz.underlying9
 have s2 : ∀ W, Below w2.heap.size w2 W → (convert 22 9 (.slice ad' n' cap')).run Tryz.prog W = .ok (.string (str zs')) W := fun W b => (h4.below b (Nat.le_refl _)).str cap' 22 Tryz.underlying22 Tryz.underlying5 Tryz.underlying9
 have S1 := hid s1
 have S2 := hid s2
 clear s1 s2
 have D1 : Below w2.heap.size w2 w2.drew := (Still.drewN w2 1).below w2.heap.size
 have HD := hid D1
 clear D1
 have i1 : inB zs := h.bd
 have i2 : inB zs' := h'.bd
 have HB := hid BB
 clear b2 B1 h1 h2 z ZB BB Y1 Y2 ZZ h3 h4 h h'
 go_wp2_with fail
 go_region_held3 (fun W => (W.cell? ⟨w.heap.size, 0, none⟩ = some (.int .i64 K) ∧ W.cell? ⟨w.heap.size, 1, none⟩ = some (.int .i64 N) ∧ W.cell? ⟨w.heap.size, 2, none⟩ = some (.float .f64 f) ∧ W.cell? ⟨w.heap.size, 3, none⟩ = some (.slice ad n cap)) ∧ W.cell? ⟨w.heap.size + 1, 0, none⟩ = some (.int .i64 K') ∧ W.cell? ⟨w.heap.size + 1, 1, none⟩ = some (.int .i64 N') ∧ W.cell? ⟨w.heap.size + 1, 2, none⟩ = some (.float .f64 f') ∧ W.cell? ⟨w.heap.size + 1, 3, none⟩ = some (.slice ad' n' cap') ∧ (convert 22 9 (.slice ad n cap)).run Tryz.prog W = .ok (.string (str zs)) W ∧ (convert 22 9 (.slice ad' n' cap')).run Tryz.prog W = .ok (.string (str zs')) W)
  (first
   | exact ⟨⟨by simpa using c0, by simpa using c1, by simpa using c2, by simpa using c3⟩, by simpa using d0, by simpa using d1, by simpa using d2, by simpa using d3, S1.out _ (by first | exact Below.refl _ _ | exact HD.out | exact (Still.drewN w2 _).below _), S2.out _ (by first | exact Below.refl _ _ | exact HD.out | exact (Still.drewN w2 _).below _)⟩
   | exact ⟨⟨cell_oldx _ (by simpa using c0), cell_oldx _ (by simpa using c1), cell_oldx _ (by simpa using c2), cell_oldx _ (by simpa using c3)⟩, cell_oldx _ (by simpa using d0), cell_oldx _ (by simpa using d1), cell_oldx _ (by simpa using d2), cell_oldx _ (by simpa using d3), S1.out _ (by first | exact HD.out.alloc (Nat.le_refl _) _ | exact (Below.refl _ _).alloc (Nat.le_refl _) _), S2.out _ (by first | exact HD.out.alloc (Nat.le_refl _) _ | exact (Below.refl _ _).alloc (Nat.le_refl _) _)⟩)
  (first
  | (go_at_call 91; refine (impl_ordInt _ _ _).mono ?_; rintro e w3 ⟨rfl, rfl⟩)
  | (go_at_call 124; refine (impl_FloatCompare _ _ hf hf' _).mono ?_; rintro e w3 ⟨rfl, rfl⟩)
  | (go_at_call 125; refine (impl_ordStr _ _ i1 i2 _).mono ?_; rintro e w3 ⟨rfl, rfl⟩)
  | (go_at_call 90; refine (cmp_or (ci K K') (ci N N') (cmp3 (frank f) (frank f')) (txt zs zs') w2.heap.size _ (new4 w2.drew _ _ _ _ 3).1 (new4 w2.drew _ _ _ _ 3).2.1 (new4 w2.drew _ _ _ _ 3).2.2.1 (new4 w2.drew _ _ _ _ 3).2.2.2).mono ?_; rintro e w3 ⟨rfl, rfl⟩))
 go_wp2_with fail
 go_ret
 refine ⟨rfl, HB.out.trans ?_⟩
 exact ((Below.refl _ w2).alloc (by have := ZZ2.out; omega) _).trans ((Still.drewN _ 1).below _)
end Go.Proofs.YtjcjoabblafboaaGreat
/- The library's contract of slices.SortFunc, laid at the program's three sorts. No conditions. -/


namespace Go.Proofs.YtjcjoabblafboaaGreat
open Go.RowKit
set_option maxRecDepth 100000
def sortItems_ren : Go.Shelf.Ren := ⟨fun | 6 => 143 | 15 => 138 | 14 => 191 | 28 => 185 | 29 => 186 | 20 => 216 | 21 => 217 | 22 => 218 | 23 => 219 | 24 => 220 | 25 => 221 | 26 => 222 | 27 => 223 | 46 => 242 | 47 => 212 | 48 => 213 | 49 => 243 | 50 => 244 | 57 => 252 | n => n, fun | 22 => 66 | 24 => 72 | 25 => 125 | 3 => 3 | 39 => 185 | 0 => 0 | 53 => 229 | 55 => 136 | 4 => 4 | 46 => 223 | 45 => 222 | 50 => 104 | 5 => 5 | 9 => 9 | 66 => 253 | 70 => 257 | 76 => 275 | 77 => 276 | n => n, fun | n => n⟩
theorem sortItems : Go.Proofs.SlLaysF0.n6 Tryz.prog sortItems_ren := {
 mixed := by kernel_rfl,
 f6 := ⟨Tryz.f143.name, by decide, Tryz.func143.trans (congrArg some (by kernel_rfl))⟩,
 f14 := ⟨Tryz.f191.name, by decide, Tryz.func191.trans (congrArg some (by kernel_rfl))⟩,
 f15 := Tryz.func138.trans (congrArg some (by kernel_rfl)),
 f20 := ⟨Tryz.f216.name, by decide, Tryz.func216.trans (congrArg some (by kernel_rfl))⟩,
 f21 := ⟨Tryz.f217.name, by decide, Tryz.func217.trans (congrArg some (by kernel_rfl))⟩,
 f22 := ⟨Tryz.f218.name, by decide, Tryz.func218.trans (congrArg some (by kernel_rfl))⟩,
 f23 := ⟨Tryz.f219.name, by decide, Tryz.func219.trans (congrArg some (by kernel_rfl))⟩,
 f24 := ⟨Tryz.f220.name, by decide, Tryz.func220.trans (congrArg some (by kernel_rfl))⟩,
 f25 := ⟨Tryz.f221.name, by decide, Tryz.func221.trans (congrArg some (by kernel_rfl))⟩,
 f26 := ⟨Tryz.f222.name, by decide, Tryz.func222.trans (congrArg some (by kernel_rfl))⟩,
 f27 := ⟨Tryz.f223.name, by decide, Tryz.func223.trans (congrArg some (by kernel_rfl))⟩,
 f28 := Tryz.func185.trans (congrArg some (by kernel_rfl)),
 f29 := Tryz.func186.trans (congrArg some (by kernel_rfl)),
 f46 := ⟨Tryz.f242.name, by decide, Tryz.func242.trans (congrArg some (by kernel_rfl))⟩,
 f47 := Tryz.func212.trans (congrArg some (by kernel_rfl)),
 f48 := Tryz.func213.trans (congrArg some (by kernel_rfl)),
 f49 := ⟨Tryz.f243.name, by decide, Tryz.func243.trans (congrArg some (by kernel_rfl))⟩,
 f50 := ⟨Tryz.f244.name, by decide, Tryz.func244.trans (congrArg some (by kernel_rfl))⟩,
 f57 := ⟨Tryz.f252.name, by decide, Tryz.func252.trans (congrArg some (by kernel_rfl))⟩,
 t0 := Tryz.underlying0,
 a0 := Tryz.isAgg0,
 z0 := Tryz.sizeOf0,
 v0 := Tryz.zeroValue0,
 t3 := Tryz.underlying3,
 a3 := Tryz.isAgg3,
 z3 := Tryz.sizeOf3,
 v3 := Tryz.zeroValue3,
 t4 := Tryz.underlying4,
 a4 := Tryz.isAgg4,
 z4 := Tryz.sizeOf4,
 v4 := Tryz.zeroValue4,
 t5 := Tryz.underlying5,
 a5 := Tryz.isAgg5,
 z5 := Tryz.sizeOf5,
 v5 := Tryz.zeroValue5,
 t9 := Tryz.underlying9,
 a9 := Tryz.isAgg9,
 z9 := Tryz.sizeOf9,
 v9 := Tryz.zeroValue9,
 t22 := Tryz.underlying66,
 a22 := Tryz.isAgg66,
 z22 := Tryz.sizeOf66,
 v22 := Tryz.zeroValue66,
 t25 := Tryz.underlying125,
 a25 := Tryz.isAgg125,
 z25 := Tryz.sizeOf125,
 v25 := Tryz.zeroValue125,
 t39 := Tryz.underlying185,
 a39 := Tryz.isAgg185,
 z39 := Tryz.sizeOf185,
 v39 := Tryz.zeroValue185,
 t45 := Tryz.underlying222,
 a45 := Tryz.isAgg222,
 z45 := Tryz.sizeOf222,
 v45 := Tryz.zeroValue222,
 t46 := Tryz.underlying223,
 a46 := Tryz.isAgg223,
 z46 := Tryz.sizeOf223,
 v46 := Tryz.zeroValue223,
 t50 := Tryz.underlying104,
 a50 := Tryz.isAgg104,
 z50 := Tryz.sizeOf104,
 v50 := Tryz.zeroValue104,
 t53 := Tryz.underlying229,
 a53 := Tryz.isAgg229,
 z53 := Tryz.sizeOf229,
 v53 := Tryz.zeroValue229,
 t55 := Tryz.underlying136,
 a55 := Tryz.isAgg136,
 z55 := Tryz.sizeOf136,
 v55 := Tryz.zeroValue136,
 t66 := Tryz.underlying253,
 a66 := Tryz.isAgg253,
 z66 := Tryz.sizeOf253,
 v66 := Tryz.zeroValue253,
 t70 := Tryz.underlying257,
 a70 := Tryz.isAgg257,
 z70 := Tryz.sizeOf257,
 v70 := Tryz.zeroValue257,
 t76 := Tryz.underlying275,
 a76 := Tryz.isAgg275,
 z76 := Tryz.sizeOf275,
 v76 := Tryz.zeroValue275,
 t77 := Tryz.underlying276,
 a77 := Tryz.isAgg276,
 z77 := Tryz.sizeOf276,
 v77 := Tryz.zeroValue276 }
def sortSpans_ren : Go.Shelf.Ren := ⟨fun | 6 => 147 | 15 => 138 | 14 => 192 | 28 => 185 | 29 => 186 | 20 => 224 | 21 => 225 | 22 => 226 | 23 => 227 | 24 => 228 | 25 => 229 | 26 => 230 | 27 => 231 | 46 => 245 | 47 => 212 | 48 => 213 | 49 => 246 | 50 => 247 | 57 => 253 | n => n, fun | 22 => 65 | 24 => 74 | 25 => 197 | 3 => 3 | 39 => 185 | 0 => 0 | 53 => 229 | 55 => 136 | 4 => 4 | 46 => 223 | 45 => 222 | 50 => 104 | 5 => 5 | 9 => 9 | 66 => 253 | 70 => 257 | 76 => 275 | 77 => 276 | n => n, fun | n => n⟩
theorem sortSpans : Go.Proofs.SlLaysF0.n6 Tryz.prog sortSpans_ren := {
 mixed := by kernel_rfl,
 f6 := ⟨Tryz.f147.name, by decide, Tryz.func147.trans (congrArg some (by kernel_rfl))⟩,
 f14 := ⟨Tryz.f192.name, by decide, Tryz.func192.trans (congrArg some (by kernel_rfl))⟩,
 f15 := Tryz.func138.trans (congrArg some (by kernel_rfl)),
 f20 := ⟨Tryz.f224.name, by decide, Tryz.func224.trans (congrArg some (by kernel_rfl))⟩,
 f21 := ⟨Tryz.f225.name, by decide, Tryz.func225.trans (congrArg some (by kernel_rfl))⟩,
 f22 := ⟨Tryz.f226.name, by decide, Tryz.func226.trans (congrArg some (by kernel_rfl))⟩,
 f23 := ⟨Tryz.f227.name, by decide, Tryz.func227.trans (congrArg some (by kernel_rfl))⟩,
 f24 := ⟨Tryz.f228.name, by decide, Tryz.func228.trans (congrArg some (by kernel_rfl))⟩,
 f25 := ⟨Tryz.f229.name, by decide, Tryz.func229.trans (congrArg some (by kernel_rfl))⟩,
 f26 := ⟨Tryz.f230.name, by decide, Tryz.func230.trans (congrArg some (by kernel_rfl))⟩,
 f27 := ⟨Tryz.f231.name, by decide, Tryz.func231.trans (congrArg some (by kernel_rfl))⟩,
 f28 := Tryz.func185.trans (congrArg some (by kernel_rfl)),
 f29 := Tryz.func186.trans (congrArg some (by kernel_rfl)),
 f46 := ⟨Tryz.f245.name, by decide, Tryz.func245.trans (congrArg some (by kernel_rfl))⟩,
 f47 := Tryz.func212.trans (congrArg some (by kernel_rfl)),
 f48 := Tryz.func213.trans (congrArg some (by kernel_rfl)),
 f49 := ⟨Tryz.f246.name, by decide, Tryz.func246.trans (congrArg some (by kernel_rfl))⟩,
 f50 := ⟨Tryz.f247.name, by decide, Tryz.func247.trans (congrArg some (by kernel_rfl))⟩,
 f57 := ⟨Tryz.f253.name, by decide, Tryz.func253.trans (congrArg some (by kernel_rfl))⟩,
 t0 := Tryz.underlying0,
 a0 := Tryz.isAgg0,
 z0 := Tryz.sizeOf0,
 v0 := Tryz.zeroValue0,
 t3 := Tryz.underlying3,
 a3 := Tryz.isAgg3,
 z3 := Tryz.sizeOf3,
 v3 := Tryz.zeroValue3,
 t4 := Tryz.underlying4,
 a4 := Tryz.isAgg4,
 z4 := Tryz.sizeOf4,
 v4 := Tryz.zeroValue4,
 t5 := Tryz.underlying5,
 a5 := Tryz.isAgg5,
 z5 := Tryz.sizeOf5,
 v5 := Tryz.zeroValue5,
 t9 := Tryz.underlying9,
 a9 := Tryz.isAgg9,
 z9 := Tryz.sizeOf9,
 v9 := Tryz.zeroValue9,
 t22 := Tryz.underlying65,
 a22 := Tryz.isAgg65,
 z22 := Tryz.sizeOf65,
 v22 := Tryz.zeroValue65,
 t25 := Tryz.underlying197,
 a25 := Tryz.isAgg197,
 z25 := Tryz.sizeOf197,
 v25 := Tryz.zeroValue197,
 t39 := Tryz.underlying185,
 a39 := Tryz.isAgg185,
 z39 := Tryz.sizeOf185,
 v39 := Tryz.zeroValue185,
 t45 := Tryz.underlying222,
 a45 := Tryz.isAgg222,
 z45 := Tryz.sizeOf222,
 v45 := Tryz.zeroValue222,
 t46 := Tryz.underlying223,
 a46 := Tryz.isAgg223,
 z46 := Tryz.sizeOf223,
 v46 := Tryz.zeroValue223,
 t50 := Tryz.underlying104,
 a50 := Tryz.isAgg104,
 z50 := Tryz.sizeOf104,
 v50 := Tryz.zeroValue104,
 t53 := Tryz.underlying229,
 a53 := Tryz.isAgg229,
 z53 := Tryz.sizeOf229,
 v53 := Tryz.zeroValue229,
 t55 := Tryz.underlying136,
 a55 := Tryz.isAgg136,
 z55 := Tryz.sizeOf136,
 v55 := Tryz.zeroValue136,
 t66 := Tryz.underlying253,
 a66 := Tryz.isAgg253,
 z66 := Tryz.sizeOf253,
 v66 := Tryz.zeroValue253,
 t70 := Tryz.underlying257,
 a70 := Tryz.isAgg257,
 z70 := Tryz.sizeOf257,
 v70 := Tryz.zeroValue257,
 t76 := Tryz.underlying275,
 a76 := Tryz.isAgg275,
 z76 := Tryz.sizeOf275,
 v76 := Tryz.zeroValue275,
 t77 := Tryz.underlying276,
 a77 := Tryz.isAgg276,
 z77 := Tryz.sizeOf276,
 v77 := Tryz.zeroValue276 }
def sortPairs_ren : Go.Shelf.Ren := ⟨fun | 6 => 88 | 15 => 138 | 14 => 137 | 28 => 185 | 29 => 186 | 20 => 177 | 21 => 178 | 22 => 179 | 23 => 180 | 24 => 181 | 25 => 182 | 26 => 183 | 27 => 184 | 46 => 211 | 47 => 212 | 48 => 213 | 49 => 214 | 50 => 215 | 57 => 241 | n => n, fun | 22 => 27 | 24 => 33 | 25 => 142 | 3 => 3 | 39 => 185 | 0 => 0 | 53 => 229 | 55 => 136 | 4 => 4 | 46 => 223 | 45 => 222 | 50 => 104 | 5 => 5 | 9 => 9 | 66 => 253 | 70 => 257 | 76 => 275 | 77 => 276 | n => n, fun | n => n⟩
theorem sortPairs : Go.Proofs.SlLaysF0.n6 Tryz.prog sortPairs_ren := {
 mixed := by kernel_rfl,
 f6 := ⟨Tryz.f88.name, by decide, Tryz.func88.trans (congrArg some (by kernel_rfl))⟩,
 f14 := ⟨Tryz.f137.name, by decide, Tryz.func137.trans (congrArg some (by kernel_rfl))⟩,
 f15 := Tryz.func138.trans (congrArg some (by kernel_rfl)),
 f20 := ⟨Tryz.f177.name, by decide, Tryz.func177.trans (congrArg some (by kernel_rfl))⟩,
 f21 := ⟨Tryz.f178.name, by decide, Tryz.func178.trans (congrArg some (by kernel_rfl))⟩,
 f22 := ⟨Tryz.f179.name, by decide, Tryz.func179.trans (congrArg some (by kernel_rfl))⟩,
 f23 := ⟨Tryz.f180.name, by decide, Tryz.func180.trans (congrArg some (by kernel_rfl))⟩,
 f24 := ⟨Tryz.f181.name, by decide, Tryz.func181.trans (congrArg some (by kernel_rfl))⟩,
 f25 := ⟨Tryz.f182.name, by decide, Tryz.func182.trans (congrArg some (by kernel_rfl))⟩,
 f26 := ⟨Tryz.f183.name, by decide, Tryz.func183.trans (congrArg some (by kernel_rfl))⟩,
 f27 := ⟨Tryz.f184.name, by decide, Tryz.func184.trans (congrArg some (by kernel_rfl))⟩,
 f28 := Tryz.func185.trans (congrArg some (by kernel_rfl)),
 f29 := Tryz.func186.trans (congrArg some (by kernel_rfl)),
 f46 := ⟨Tryz.f211.name, by decide, Tryz.func211.trans (congrArg some (by kernel_rfl))⟩,
 f47 := Tryz.func212.trans (congrArg some (by kernel_rfl)),
 f48 := Tryz.func213.trans (congrArg some (by kernel_rfl)),
 f49 := ⟨Tryz.f214.name, by decide, Tryz.func214.trans (congrArg some (by kernel_rfl))⟩,
 f50 := ⟨Tryz.f215.name, by decide, Tryz.func215.trans (congrArg some (by kernel_rfl))⟩,
 f57 := ⟨Tryz.f241.name, by decide, Tryz.func241.trans (congrArg some (by kernel_rfl))⟩,
 t0 := Tryz.underlying0,
 a0 := Tryz.isAgg0,
 z0 := Tryz.sizeOf0,
 v0 := Tryz.zeroValue0,
 t3 := Tryz.underlying3,
 a3 := Tryz.isAgg3,
 z3 := Tryz.sizeOf3,
 v3 := Tryz.zeroValue3,
 t4 := Tryz.underlying4,
 a4 := Tryz.isAgg4,
 z4 := Tryz.sizeOf4,
 v4 := Tryz.zeroValue4,
 t5 := Tryz.underlying5,
 a5 := Tryz.isAgg5,
 z5 := Tryz.sizeOf5,
 v5 := Tryz.zeroValue5,
 t9 := Tryz.underlying9,
 a9 := Tryz.isAgg9,
 z9 := Tryz.sizeOf9,
 v9 := Tryz.zeroValue9,
 t22 := Tryz.underlying27,
 a22 := Tryz.isAgg27,
 z22 := Tryz.sizeOf27,
 v22 := Tryz.zeroValue27,
 t25 := Tryz.underlying142,
 a25 := Tryz.isAgg142,
 z25 := Tryz.sizeOf142,
 v25 := Tryz.zeroValue142,
 t39 := Tryz.underlying185,
 a39 := Tryz.isAgg185,
 z39 := Tryz.sizeOf185,
 v39 := Tryz.zeroValue185,
 t45 := Tryz.underlying222,
 a45 := Tryz.isAgg222,
 z45 := Tryz.sizeOf222,
 v45 := Tryz.zeroValue222,
 t46 := Tryz.underlying223,
 a46 := Tryz.isAgg223,
 z46 := Tryz.sizeOf223,
 v46 := Tryz.zeroValue223,
 t50 := Tryz.underlying104,
 a50 := Tryz.isAgg104,
 z50 := Tryz.sizeOf104,
 v50 := Tryz.zeroValue104,
 t53 := Tryz.underlying229,
 a53 := Tryz.isAgg229,
 z53 := Tryz.sizeOf229,
 v53 := Tryz.zeroValue229,
 t55 := Tryz.underlying136,
 a55 := Tryz.isAgg136,
 z55 := Tryz.sizeOf136,
 v55 := Tryz.zeroValue136,
 t66 := Tryz.underlying253,
 a66 := Tryz.isAgg253,
 z66 := Tryz.sizeOf253,
 v66 := Tryz.zeroValue253,
 t70 := Tryz.underlying257,
 a70 := Tryz.isAgg257,
 z70 := Tryz.sizeOf257,
 v70 := Tryz.zeroValue257,
 t76 := Tryz.underlying275,
 a76 := Tryz.isAgg275,
 z76 := Tryz.sizeOf275,
 v76 := Tryz.zeroValue275,
 t77 := Tryz.underlying276,
 a77 := Tryz.isAgg276,
 z77 := Tryz.sizeOf276,
 v77 := Tryz.zeroValue276 }
end Go.Proofs.YtjcjoabblafboaaGreat
/- slices.SortFunc over a row of the call's own, at elements of any number of cells: the library's contract told of owned rows. Condition: the comparison is a strict weak order. -/


namespace Go.Proofs.YtjcjoabblafboaaGreat
open Go.RowKit Go.Lib Go.Sort
set_option maxRecDepth 100000
section
variable {α : Type} [Inhabited α]
theorem flat_at (enc : α → List Value) (k : Nat) (hk : ∀ x, (enc x).length = k) : ∀ (l : List α) (t : Nat), t < l.length * k → (l.flatMap enc)[t]? = (enc (l.getD (t / k) default))[t % k]?
 | [], t, h => by simp at h
 | x :: r, t, h => by
  have k0 : 0 < k := by
   rcases Nat.eq_zero_or_pos k with e | e
   · subst e; simp at h
   · exact e
  rw [List.flatMap_cons]
  by_cases ht : t < k
  · rw [List.getElem?_append_left (by rw [hk]; exact ht), Nat.div_eq_of_lt ht, Nat.mod_eq_of_lt ht]
    rfl
  · obtain ⟨u, rfl⟩ : ∃ u, t = u + k := ⟨t - k, by omega⟩
    rw [List.getElem?_append_right (by rw [hk]; omega), hk, Nat.add_sub_cancel, Nat.add_div_right _ k0, Nat.add_mod_right, List.getD_cons_succ]
    exact flat_at enc k hk r u (by rw [List.length_cons, Nat.succ_mul] at h; omega)
omit [Inhabited α] in
theorem flat_len (enc : α → List Value) (k : Nat) (hk : ∀ x, (enc x).length = k) : ∀ l : List α, (l.flatMap enc).length = l.length * k
 | [] => by simp
 | x :: r => by rw [List.flatMap_cons, List.length_append, hk, flat_len enc k hk r, List.length_cons, Nat.succ_mul, Nat.add_comm]
theorem flatK_list (enc : α → List Value) (k : Nat) (hk : ∀ x, (enc x).length = k) (l : List α) : (flatK enc k l.toArray).toList = l.flatMap enc := by
 apply List.ext_getElem?
 intro t
 by_cases h : t < l.length * k
 · rw [flat_at enc k hk l t h]
   have hs : t < (flatK enc k l.toArray).size := by rw [size_flatK]; simpa using h
   have k0 : 0 < k := by
    rcases Nat.eq_zero_or_pos k with e | e
    · subst e; simp at h
    · exact e
   have hm : t % k < (enc (l.getD (t / k) default)).length := by rw [hk]; exact Nat.mod_lt _ k0
   have := get_flatK enc k l.toArray t (by simpa using h)
   rw [getElem!_pos _ t hs] at this
   rw [Array.getElem?_toList, Array.getElem?_eq_getElem hs, this]
   have hq : t / k < l.length := by rw [Nat.div_lt_iff_lt_mul k0]; exact h
   have hd : l.toArray[t / k]! = l.getD (t / k) default := by
    rw [getElem!_pos l.toArray (t / k) (by simpa using hq)]
    simp [List.getD, hq]
   rw [hd, getElem!_pos (enc (l.getD (t / k) default)) (t % k) hm, List.getElem?_eq_getElem hm]
 · rw [List.getElem?_eq_none (by rw [Array.length_toList, size_flatK]; simpa using Nat.le_of_not_lt h), List.getElem?_eq_none (by rw [flat_len enc k hk]; omega)]
theorem putCells_take (F c : Array Value) (h : F.size ≤ c.size) : (putCells id 0 F c).toList.take F.size = F.toList := by
 apply List.ext_getElem?
 intro t
 rw [List.getElem?_take]
 by_cases ht : t < F.size
 · rw [if_pos ht, Array.getElem?_toList, Array.getElem?_toList]
   unfold putCells
   rw [Array.getElem?_mapIdx, Array.getElem?_eq_getElem (by omega), Array.getElem?_eq_getElem ht]
   simp only [Option.map_some, Nat.zero_le, true_and, Nat.zero_add, if_pos ht, Nat.sub_zero, id]
   rw [getElem!_pos F t ht]
 · rw [if_neg ht, List.getElem?_eq_none (by rw [Array.length_toList]; omega)]
theorem putCells_size (F c : Array Value) : (putCells id 0 F c).size = c.size := by simp [putCells]
theorem sortWorld_row {enc : α → List Value} {k : Nat} {w : World} {blk m : Nat} {d : Array α} {os : Array Obj} {c : Array Value} {T : TypeId} (h : w.heap[blk]? = some (.cells c T (0, 0))) :
 (sortWorldK enc k w blk 0 m d os).heap[blk]? = some (.cells (putCells id 0 (flatK enc k d) c) T (0, 0)) := by
 have hb : blk < w.heap.size := by
  by_cases q : blk < w.heap.size
  · exact q
  · rw [Array.getElem?_eq_none (by omega)] at h; cases h
 unfold sortWorldK
 rw [heap_grow_old _ _ (by rw [size_putRowK]; exact hb)]
 show ((Sort.ahead w m).heap.modify blk (onCells (putCells id 0 (flatK enc k d))))[blk]? = _
 rw [Array.getElem?_modify, if_pos rfl]
 show (w.heap[blk]?).map _ = _
 rw [h]; rfl
theorem sortWorld_grown {enc : α → List Value} {k : Nat} {w : World} {blk m : Nat} {d : Array α} {os : Array Obj} : w.grownBy (sortWorldK enc k w blk 0 m d os) (some blk) := by
 refine ⟨rfl, rfl, rfl, size_sortWorldK_c enc k w blk 0 m d os, fun j hj hne => ?_⟩
 unfold sortWorldK
 rw [heap_grow_old _ _ (by rw [size_putRowK]; exact hj)]
 show ((Sort.ahead w m).heap.modify blk (onCells (putCells id 0 (flatK enc k d))))[j]? = _
 rw [Array.getElem?_modify, if_neg (fun e => hne (by rw [e]))]
 rfl
theorem sortOwn {ρ : Go.Shelf.Ren} (L : SlLaysF0.n6 Tryz.prog ρ) (k : Nat) (aE : ∀ w, (isAgg (ρ.t 24)).run Tryz.prog w = .ok true w) (zE : ∀ w, (Go.sizeOf (ρ.t 24)).run Tryz.prog w = .ok k w) (enc : α → List Value) (hk : ∀ x, (enc x).length = k) (h1 : ∀ x, ∀ v ∈ enc x, v.oneCell' = true) (cf : α → α → Int) (hO : SWO (ltOf cf)) (g : Nat) (cb : Array Value)
 {base : Nat} {T : TypeId} {blk cap n : Nat} (l : List α) (hn : l.length = n) (w : World) (own : w.ownsRow base T k (.slice (some ⟨blk, 0, none⟩) n cap) n (l.flatMap enc)) (eg : ∀ args w, (callFunc g args).run Tryz.prog w = .ok (.enter g args) w) (hcmp : CmpLays Tryz.prog g cb enc k cf blk 0 n w) (hsz : n < 4611686018427387904) :
 Calls Tryz.prog (ρ.f 6) #[.slice (some ⟨blk, 0, none⟩) n cap, .func (.func g) #[] cb] w fun e w' => e = .returned (.tuple #[]) ∧ ∃ l' : List α, l'.Perm l ∧ l'.Pairwise (fun x y => ¬ cf y x < 0) ∧ w'.ownsRow base T k (.slice (some ⟨blk, 0, none⟩) n cap) n (l'.flatMap enc) ∧ w.grownBy w' (some blk) := by
 subst hn
 obtain ⟨hlen, hrow⟩ := own
 have own' : w.ownsRow base T k (.slice (some ⟨blk, 0, none⟩) l.length cap) l.length (l.flatMap enc) := ⟨hlen, hrow⟩
 rcases hrow with ⟨e, _⟩ | ⟨g', cap', cur, e, hbase, hheap, hcap, hmax, hcs, htake⟩
 · cases e
 obtain ⟨e1, -, rfl⟩ := Value.slice.inj e
 obtain rfl : blk = g' := by simpa using e1
 have hb : blk < w.heap.size := by
  by_cases q : blk < w.heap.size
  · exact q
  · rw [Array.getElem?_eq_none (by omega)] at hheap; cases hheap
 have hH : HoldsK enc k w blk 0 l.toArray := by
  intro j hj
  have hj' : j < l.length * k := by simpa using hj
  refine ⟨?_, ?_⟩
  · rw [Nat.zero_add, own'.cellAt j hj', ← flatK_list enc k hk l, Array.getElem?_toList, Array.getElem?_eq_getElem hj, getElem!_pos _ j hj]
    rfl
  · simp [World.frozen?, hheap]
 have hcon := AnyQ.slices_SortFunc L k aE zE enc hk h1 cf hO g cb blk 0 cap l.toArray w eg (by simpa using hcmp) hH hb (by simpa using hsz)
 rw [List.size_toArray] at hcon
 refine hcon.mono ?_
 rintro e w' ⟨he, d', m, os, hp, hs, rfl⟩
 obtain ⟨hp1, -, hp3⟩ := hp
 have hd : d'.size = l.length := by simpa using hp1
 refine ⟨he, d'.toList, ?_, ?_, ?_, sortWorld_grown⟩
 · have q1 : d'.extract 0 l.length = d' := by rw [← hd]; exact Array.extract_size
   have q2 : l.toArray.extract 0 l.length = l.toArray := by simp
   rw [q1, q2] at hp3
   exact hp3
 · rw [List.pairwise_iff_getElem]
   intro i j hi hj hij
   have := hs i j (Nat.zero_le _) hij (by rw [← hd]; simpa using hj)
   unfold ltOf at this
   rw [decide_eq_false_iff_not] at this
   rw [getElem!_pos d' i (by simpa using hi), getElem!_pos d' j (by simpa using hj)] at this
   exact this
 · have hF : flatK enc k d' = flatK enc k d'.toList.toArray := by simp
   refine ⟨by rw [flat_len enc k hk, Array.length_toList, hd], .inr ⟨blk, cap, putCells id 0 (flatK enc k d') cur, rfl, hbase, sortWorld_row hheap, hcap, hmax, by rw [putCells_size]; exact hcs, ?_⟩⟩
   have := putCells_take (flatK enc k d') cur (by rw [size_flatK, hcs, hd]; exact Nat.mul_le_mul_right _ hcap)
   rw [size_flatK, hd] at this
   rw [this, ← flatK_list enc k hk d'.toList, ← hF]
end
end Go.Proofs.YtjcjoabblafboaaGreat
/- Plain notions for disks in memory: rows of byte rows, each in a block of its own; what they keep. No statement of its own; no conditions. -/

namespace Go.Proofs.YtjcjoabblafboaaGreat
open Go.RowKit
def Agree (lo hi : Nat) (w w' : World) : Prop := ∀ k, lo ≤ k → k < hi → w'.heap[k]? = w.heap[k]?
theorem Agree.trans {lo hi : Nat} {a b c : World} (h : Agree lo hi a b) (k : Agree lo hi b c) : Agree lo hi a c := fun i h1 h2 => (k i h1 h2).trans (h i h1 h2)
structure Within (lo hi : Nat) (w w' : World) : Prop where
 os : w'.os = w.os
 tape : w'.tape = w.tape
 output : w'.output = w.output
 size : w.heap.size ≤ w'.heap.size
 block : ∀ k, k < w.heap.size → (k < lo ∨ hi ≤ k) → w'.heap[k]? = w.heap[k]?
theorem Within.trans {lo hi : Nat} {a b c : World} (h : Within lo hi a b) (k : Within lo hi b c) : Within lo hi a c :=
 ⟨k.os.trans h.os, k.tape.trans h.tape, k.output.trans h.output, Nat.le_trans h.size k.size, fun i h1 h2 => (k.block i (Nat.lt_of_lt_of_le h1 h.size) h2).trans (h.block i h1 h2)⟩
theorem owns_agree {w w' : World} {lo hi base : Nat} {e : TypeId} {s : Nat} {v : Value} {n : Nat} {xs : List Value} (ho : w.ownsRow base e s v n xs) (ha : Agree lo hi w w') (hb : ∀ g, v.ownBlock = some g → lo ≤ g ∧ g < hi) : w'.ownsRow base e s v n xs := by
 refine ⟨ho.1, ?_⟩
 rcases ho.2 with hn | ⟨g, cap, cur, rfl, hbg, hg, rest⟩
 · exact .inl hn
 · exact .inr ⟨g, cap, cur, rfl, hbg, by rw [ha g (hb g rfl).1 (hb g rfl).2]; exact hg, rest⟩
theorem owns_lower {w : World} {base base' : Nat} {e : TypeId} {s : Nat} {v : Value} {n : Nat} {xs : List Value} (h : w.ownsRow base e s v n xs) (hb : base' ≤ base) : w.ownsRow base' e s v n xs := by
 refine ⟨h.1, ?_⟩
 rcases h.2 with hn | ⟨g, cap, cur, rfl, hbg, hg, rest⟩
 · exact .inl hn
 · exact .inr ⟨g, cap, cur, rfl, Nat.le_trans hb hbg, hg, rest⟩
theorem owns_ne {w : World} {b b' : Nat} {e e' : TypeId} {s s' : Nat} {v v' : Value} {n n' : Nat} {xs xs' : List Value} (h : w.ownsRow b e s v n xs) (h' : w.ownsRow b' e' s' v' n' xs') (hne : e ≠ e') : v.ownBlock = none ∨ v.ownBlock ≠ v'.ownBlock := by
 rcases h.2 with ⟨rfl, _⟩ | ⟨g, cap, cur, rfl, _, hg, _⟩
 · exact .inl rfl
 · right
   rcases h'.2 with ⟨rfl, _⟩ | ⟨g', cap', cur', rfl, _, hg', _⟩
   · simp [Value.ownBlock]
   · intro he
     simp only [Value.ownBlock, Option.some.injEq] at he
     subst he
     rw [hg] at hg'
     simp only [Option.some.injEq, Obj.cells.injEq] at hg'
     exact hne hg'.2.1
def nilS : Value := .slice none 0 0
def Apart (a b : Value) : Prop := a.ownBlock = none ∨ a.ownBlock ≠ b.ownBlock
theorem Apart.symm {a b : Value} (h : Apart a b) : Apart b a := by
 rcases h with h | h
 · cases hb : b.ownBlock with
   | none => exact .inl hb
   | some k => exact .inr (by rw [hb, h]; simp)
 · exact .inr (fun e => h e.symm)
def Row (w : World) (v : Value) (zs : List Int) : Prop := ∃ a c, v = .slice a zs.length c ∧ Reads w a zs.length zs ∧ (a = none → c = 0) ∧ zs.length ≤ maxLen
theorem Row.below {w w' : World} {v : Value} {zs : List Int} (h : Row w v zs) {B : Nat} (hb : Below B w w') (hB : w.heap.size ≤ B) : Row w' v zs := by
 obtain ⟨a, c, h1, h2, h3⟩ := h
 exact ⟨a, c, h1, h2.below hb hB, h3⟩
theorem Row.own {w : World} {base : Nat} {v : Value} {n : Nat} {zs : List Int} (h : w.ownsRow base 5 1 v n (bys zs)) (hbd : ∀ i, 0 ≤ zs.getD i 0 ∧ zs.getD i 0 ≤ 255) : Row w v zs := by
 have hl : zs.length = n := by have := h.1; simpa [bys] using this
 obtain ⟨a, c, rfl, r, d⟩ := Reads.own h hbd
 subst hl
 refine ⟨a, c, rfl, r, ?_, ?_⟩
 · intro ha; subst ha
   rcases h.2 with ⟨h1, _⟩ | ⟨g, cap, cur, h1, _⟩
   · exact (Value.slice.inj h1).2.2
   · exact absurd (Value.slice.inj h1).1 (by simp)
 · rcases h.2 with ⟨_, h1⟩ | ⟨g, cap, cur, _, _, _, h1, h2, _⟩
   · rw [h1]; exact Nat.zero_le _
   · exact Nat.le_trans h1 h2
structure Bands (w : World) (lo hi : Nat) (xs : List Value) (ss : List (List Int)) : Prop where
 len : xs.length = ss.length
 own : ∀ i, w.ownsRow lo 5 1 (xs.getD i nilS) (ss.getD i []).length (bys (ss.getD i []))
 top : ∀ x ∈ xs, ∀ g, x.ownBlock = some g → g < hi
 apart : xs.Pairwise Apart
 bd : ∀ i j, 0 ≤ (ss.getD i []).getD j 0 ∧ (ss.getD i []).getD j 0 ≤ 255
theorem getD_mem_or {α : Type} (xs : List α) (i : Nat) (d : α) : xs.getD i d = d ∨ xs.getD i d ∈ xs := by
 by_cases h : i < xs.length
 · right
   rw [List.getD_eq_getElem?_getD, List.getElem?_eq_getElem h]
   exact List.getElem_mem h
 · left
   rw [List.getD_eq_getElem?_getD, List.getElem?_eq_none (by omega)]; rfl
theorem Bands.inr {w : World} {lo hi : Nat} {xs : List Value} {ss : List (List Int)} (h : Bands w lo hi xs ss) (i : Nat) : ∀ g, (xs.getD i nilS).ownBlock = some g → lo ≤ g ∧ g < hi := by
 intro g hg
 refine ⟨((h.own i).lt g hg).1, ?_⟩
 rcases getD_mem_or xs i nilS with e | e
 · rw [e] at hg; cases hg
 · exact h.top _ e g hg
theorem Bands.row {w : World} {lo hi : Nat} {xs : List Value} {ss : List (List Int)} (h : Bands w lo hi xs ss) (i : Nat) : Row w (xs.getD i nilS) (ss.getD i []) := Row.own (h.own i) (h.bd i)
theorem getD_app {α : Type} (xs ys : List α) (i : Nat) (d : α) : (xs ++ ys).getD i d = if i < xs.length then xs.getD i d else ys.getD (i - xs.length) d := by
 simp only [List.getD_eq_getElem?_getD, List.getElem?_append]
 split <;> rfl
theorem getD_set' {α : Type} (xs : List α) (i j : Nat) (v d : α) (hi : i < xs.length) : (xs.set i v).getD j d = if j = i then v else xs.getD j d := by
 simp only [List.getD_eq_getElem?_getD, List.getElem?_set]
 by_cases h : i = j
 · subst h; simp [hi]
 · rw [if_neg h, if_neg (fun e => h e.symm)]
end Go.Proofs.YtjcjoabblafboaaGreat
/- Rows told apart by their type. No statement of its own; no conditions. -/

namespace Go.Proofs.YtjcjoabblafboaaGreat
open Go.RowKit
theorem oty_ne {w : World} {B k : Nat} {e t : TypeId} {s : Nat} {v : Value} {n : Nat} {xs cs : _} {fz : _} (o : w.ownsRow B e s v n xs) (hk : w.heap[k]? = some (.cells cs t fz)) (ht : t ≠ e) : v.ownBlock = none ∨ v.ownBlock ≠ some k := by
 rcases o.2 with ⟨rfl, _⟩ | ⟨g, cap, cur, rfl, _, hg, _⟩
 · exact .inl rfl
 · right
   intro he
   simp only [Value.ownBlock, Option.some.injEq] at he
   subst he
   rw [hg] at hk
   simp only [Option.some.injEq, Obj.cells.injEq] at hk
   exact ht hk.2.1.symm
end Go.Proofs.YtjcjoabblafboaaGreat
/- A slice of byte slices, read; the contract of the program's joined. Conditions: lists of at most 2^21 bytes together. -/



namespace Go.Proofs.YtjcjoabblafboaaGreat
open Go.RowKit
set_option maxRecDepth 100000
structure ReadsS (w : World) (ad : Option Addr) (ss : List (List Int)) : Prop where
 cells : ss.length = 0 ∨ ∃ b off, ad = some ⟨b, off, none⟩ ∧ ∀ i, i < ss.length → ∃ v, w.cell? ⟨b, off + i, none⟩ = some v ∧ Row w v (ss.getD i [])
end Go.Proofs.YtjcjoabblafboaaGreat
/- The contracts of the laws' helpers over slices of byte slices: toByteSS, eqByteSS, szByteS, szByteSS, markByteSS, heldByteSS; such a slice that came in, read. Conditions: lists of at most 2^21 bytes together where memory is made or counted. -/







namespace Go.Proofs.YtjcjoabblafboaaGreat
open Go.RowKit Go.ChangeShapes Go.WideShapes Go.Deep
set_option maxRecDepth 100000
theorem ReadsS.own {w : World} {lo lo' hi : Nat} {vS : Value} {ss : List (List Int)} {xs : List Value} (o : w.ownsRow lo 22 1 vS ss.length xs) (hB : Bands w lo' hi xs ss) : ∃ a c, vS = .slice a ss.length c ∧ ReadsS w a ss := by
 rcases o.2 with ⟨rfl, h0⟩ | ⟨g, cap, cur, rfl, _⟩
 · exact ⟨none, 0, by rw [h0], ⟨.inl h0⟩⟩
 · refine ⟨_, cap, rfl, ⟨.inr ⟨g, 0, rfl, fun i hi => ⟨xs.getD i nilS, ?_, hB.row i⟩⟩⟩⟩
   rw [Nat.zero_add, o.cellAt i (by omega), List.getD_eq_getElem?_getD]
   have hl := hB.len
   rw [List.getElem?_eq_getElem (by omega)]
   rfl
section
variable {H : Type} {enc : TypeId × Value → H} {w : World} {base : Nat} {held : Bool}
end
end Go.Proofs.YtjcjoabblafboaaGreat
/- A page in a block of its own, and what it leads to; a page whose memory is the call's own. No statement of its own; no conditions. -/

namespace Go.Proofs.YtjcjoabblafboaaGreat
open Go.RowKit
structure BoxP (w : World) (g : Nat) (L : Int) (a : Option Addr) (n c : Nat) : Prop where
 c0 : w.cell? ⟨g, 0, none⟩ = some (.int .i64 L)
 c1 : w.cell? ⟨g, 1, none⟩ = some (.slice a n c)
section
variable {w w' : World} {g lo : Nat} {L : Int} {a : Option Addr} {n c : Nat} {ss ss' : List (List Int)}
theorem BoxP.row {t : TypeId} (h : w.heap[g]? = some (.cells #[.int .i64 L, .slice a n c] t (0, 0))) : BoxP w g L a n c := by
 refine ⟨?_, ?_⟩ <;> (rw [cell_of_row _ _ _ _ _ _ h]; rfl)
theorem BoxP.lt (b : BoxP w g L a n c) : g < w.heap.size := World.block_lt_of_cell? w _ b.c0
structure ArgP (w : World) (g : Nat) (L : Int) (a : Option Addr) (n c : Nat) (ss : List (List Int)) : Prop where
 box : BoxP w g L a n c
 reads : ReadsS w a ss
theorem ArgP.lt (x : ArgP w g L a n c ss) : g < w.heap.size := x.box.lt
end
structure OwnP (w : World) (lo hi : Nat) (v : Value) (ss : List (List Int)) : Prop where
 own : ∃ xs : List Value, w.ownsRow lo 22 1 v ss.length xs ∧ Bands w lo hi xs ss
 top : ∀ g, v.ownBlock = some g → g < hi
section
variable {w w' : World} {lo hi g : Nat} {v : Value} {L : Int} {a : Option Addr} {n c : Nat} {ss ss' : List (List Int)}
theorem OwnP.rd (h : OwnP w lo hi (.slice a n c) ss) : ReadsS w a ss := by
 obtain ⟨xs, o, b⟩ := h.own
 obtain ⟨a', c', e, r⟩ := ReadsS.own o b
 obtain ⟨rfl, _, _⟩ := Value.slice.inj e
 exact r
theorem OwnP.slice (h : OwnP w lo hi v ss) : ∃ a c, v = .slice a ss.length c ∧ ReadsS w a ss := by
 obtain ⟨xs, o, b⟩ := h.own
 exact ReadsS.own o b
structure OwnB (w : World) (lo g : Nat) (L : Int) (a : Option Addr) (n c : Nat) (ss : List (List Int)) : Prop where
 box : BoxP w g L a n c
 own : OwnP w lo g (.slice a n c) ss
theorem OwnB.lt (x : OwnB w lo g L a n c ss) : g < w.heap.size := x.box.lt
theorem OwnB.reads (x : OwnB w lo g L a n c ss) : ReadsS w a ss := x.own.rd
end
end Go.Proofs.YtjcjoabblafboaaGreat
/- The contracts of the laws' toPage, szPage, eqPage, markPage, heldPage; a page that came in, read. Conditions: lists of at most 2^21 bytes together where memory is made or counted. -/

namespace Go.Proofs.YtjcjoabblafboaaGreat
open Go.RowKit
set_option maxRecDepth 100000
theorem heap_set_ne (w : World) (g o k : Nat) (u : Value) (h : k ≠ g) : (w.setCell ⟨g, o, none⟩ u).heap[k]? = w.heap[k]? := heap_setCell_other w ⟨g, o, none⟩ k u (by simpa using h)
theorem set_size (w : World) (a : Addr) (u : Value) : (w.setCell a u).heap.size = w.heap.size := by simp
section
variable {H : Type} {enc : TypeId × Value → H} {w : World} {base : Nat} {held : Bool}
end
end Go.Proofs.YtjcjoabblafboaaGreat
/- A region that draws its order, one of whose operations (number L, a store) waits for all that read: a condition on the world that is shown behind every operation but that one. No statement of its own; no conditions. -/

namespace Go.Proofs.YtjcjoabblafboaaGreat
open Go
def waitsFor (md : Region.Mode) (ops : Array Oper) (L i : Nat) : Bool :=
 match ops[L]? with
 | some o => o.after.any fun e => Region.binds md e && e.on == i
 | none => false
section
variable {P : Program} {ops : Array Oper} {Q : Exit → Act → World → Prop} {md : Region.Mode} {S : World → Prop} {L : Nat}
def anyK (P : Program) (md : Region.Mode) (ops : Array Oper) (Q : Exit → Act → World → Prop) (S : World → Prop) (L : Nat) : Nat → Array Bool → Act → World → Prop
 | 0, listed, a, w => Region.ready md ops listed = [] ∧ Q .normal a w
 | n + 1, listed, a, w => (Region.ready md ops listed = [] → Q .normal a w) ∧
  ∀ i ∈ Region.ready md ops listed, wpOp P ops Q i (fun a' w' => (i = L ∨ S w') ∧ anyK P md ops Q S L n (listed.setIfInBounds i true) a' w') a w
theorem anyK_any : ∀ (n : Nat) (listed : Array Bool) (a : Act) (w : World), anyK P md ops Q S L n listed a w → wpAny P md ops Q n listed a w
 | 0, _, _, _, h => h
 | n + 1, _, _, _, h => ⟨h.1, fun i hi => wpOp_mono (fun a' w' k => anyK_any n _ a' w' k.2) (h.2 i hi)⟩
theorem anyK_first {i : Nat} {oi : Oper} {v : Value} (hi : ops[i]? = some oi) (hsel : ∀ (j : Nat) (o : Oper) cs b, ops[j]? = some o → o.op ≠ .select cs b)
 (hQ : ∀ c a w, Q (.panic c) (a.put oi.dst v) w → Q (.panic c) a w) (hL : waitsFor md ops L i = true) (n : Nat) : ∀ (listed : Array Bool) (a : Act) (w : World),
  (∀ j oj, ops[j]? = some oj → j ≠ i → listed.getD j true = false → (∀ e ∈ oj.after, Region.binds md e = true → e.on ≠ i) → oi.apart ops oj = true) →
  i ∈ Region.ready md ops listed → YieldsIf P ops S oi v a → S w →
  anyK P md ops Q S L n (listed.setIfInBounds i true) (a.put oi.dst v) w → anyK P md ops Q S L (n + 1) listed a w := by
 induction n with
 | zero =>
  intro listed a w _ hr hy hS H
  refine ⟨fun e => absurd hr (by rw [e]; simp), fun j hj => ?_⟩
  rcases Nat.decEq j i with hne | heq
  · have hm := ready_mono hj hne
    rw [H.1] at hm
    cases hm
  · subst heq
    exact hy.wpOp hi hS ⟨.inr hS, H⟩
 | succ n ih =>
  intro listed a w hfree hr hy hS H
  refine ⟨fun e => absurd hr (by rw [e]; simp), fun j hj => ?_⟩
  rcases Nat.decEq j i with hne | heq
  · obtain ⟨hju, oj, hoj, hall⟩ := mem_ready.1 hj
    have hunl := (mem_ready.1 hr).1
    have hno : ∀ e ∈ oj.after, Region.binds md e = true → e.on ≠ i := by
     intro e he hb heq
     have h1 := hall e he hb
     rw [heq] at h1
     by_cases hsz : i < listed.size
     · simp [hsz] at hunl h1
       rw [hunl] at h1
       cases h1
     · simp [Array.getElem?_eq_none (Nat.le_of_not_lt hsz)] at h1
    have hjL : j ≠ L := by
     intro e
     subst e
     simp only [waitsFor, hoj] at hL
     obtain ⟨e, he, hb⟩ := Array.any_eq_true'.1 hL
     simp only [Bool.and_eq_true, beq_iff_eq] at hb
     exact hno e he hb.1 hb.2
    have step := wpOp_putIf hoj (hfree j oj hoj hne hju hno) (fun cs b => hsel i oi cs b hi) (fun cs b => hsel j oj cs b hoj) hQ hy (H.2 j (ready_mono hj hne))
    refine wpOp_mono (fun a' w' k => ?_) step
    obtain ⟨k1, k2, k3⟩ := k
    rcases k2 with k2 | k2
    · exact absurd k2 hjL
    · refine ⟨.inr k2, ih (listed.setIfInBounds j true) a' w' ?_ (ready_mono hr (fun e => hne e.symm)) k1 k2 ?_⟩
      · intro q oq hq hqi hun hnq
        refine hfree q oq hq hqi ?_ hnq
        by_cases hjq : j = q
        · subst hjq; exact hju
        · rw [getD_set_ne true hjq] at hun; exact hun
      · rw [Array.setIfInBounds_comm _ _ hne]
        exact k3
  · subst heq
    exact hy.wpOp hi hS ⟨.inr hS, H⟩
theorem anyK_take {i : Nat} {oi : Oper} {v : Value} {n : Nat} {listed : Array Bool} {a : Act} {w : World} (hi : ops[i]? = some oi) (hs : Region.noSelect ops = true) (hf : Region.free md ops listed i = true) (hr : (Region.ready md ops listed).contains i = true) (hL : waitsFor md ops L i = true)
 (hQ : ∀ c a w, Q (.panic c) (a.put oi.dst v) w → Q (.panic c) a w) (hw : Region.wanted oi (yielded ops a.tmps) = true) (hS : S w) (hy : ∀ w, S w → (execOp a.eval oi).run P w = .ok (.value v) w) (d : Option Tmp) (hd : oi.dst = d)
 (h : anyK P md ops Q S L n (listed.setIfInBounds i true) (a.put d v) w) : anyK P md ops Q S L (n + 1) listed a w :=
 anyK_first hi (Region.noSelect_spec hs) hQ hL n listed a w (Region.free_spec hi hf) (by simpa using hr) (.inl ⟨hw, hy⟩) hS (by rw [hd]; exact h)
theorem anyK_step {i : Nat} {o : Oper} {n : Nat} {listed : Array Bool} {a : Act} {w : World} (hr : Region.ready md ops listed = [i]) (ho : ops[i]? = some o)
 (h : ∀ K : Act → World → Prop, Shut (∀ a w, S w → (S w → anyK P md ops Q S L n (listed.setIfInBounds i true) a w) → K a w) → if Region.wanted o (yielded ops a.tmps) = true then Oper.wp P o a w K Q else K (a.put o.dst undef) w) : anyK P md ops Q S L (n + 1) listed a w := by
 refine ⟨fun e => absurd e (by rw [hr]; simp), fun j hj => ?_⟩
 rw [hr] at hj
 obtain rfl := List.mem_singleton.1 hj
 exact wpOp_step ho (fun K hK => h K (fun a w hS hW => hK a w ⟨.inr hS, hW hS⟩))
theorem anyK_last {o : Oper} {n : Nat} {listed : Array Bool} {a : Act} {w : World} (hr : Region.ready md ops listed = [L]) (ho : ops[L]? = some o)
 (h : ∀ K : Act → World → Prop, Shut (∀ a w, anyK P md ops Q S L n (listed.setIfInBounds L true) a w → K a w) → if Region.wanted o (yielded ops a.tmps) = true then Oper.wp P o a w K Q else K (a.put o.dst undef) w) : anyK P md ops Q S L (n + 1) listed a w := by
 refine ⟨fun e => absurd e (by rw [hr]; simp), fun j hj => ?_⟩
 rw [hr] at hj
 obtain rfl := List.mem_singleton.1 hj
 exact wpOp_step ho (fun K hK => h K (fun a w hW => hK a w ⟨.inl rfl, hW⟩))
theorem anyK_done {listed : Array Bool} {a : Act} {w : World} (hr : Region.ready md ops listed = []) (h : Q .normal a w) : ∀ n, anyK P md ops Q S L n listed a w
 | 0 => ⟨hr, h⟩
 | _ + 1 => ⟨fun _ => h, by rw [hr]; simp⟩
theorem region_K {id : Nat} {a : Act} {w : World} (L : Nat) (S : World → Prop) (hm : P.follows .mixedOrders = true) (hS : S w.drew)
 (h : S w.drew → anyK P .any ops Q S L ops.size (Array.replicate ops.size false) a w.drew) : (Code.region id ops true).wp P Q a w :=
 wp_region_any hm (anyK_any _ _ _ _ (h hS))
end
end Go.Proofs.YtjcjoabblafboaaGreat
/- A region that draws its order and writes nothing: what reads is taken first. No statement of its own; no conditions. -/

namespace Go.Proofs.YtjcjoabblafboaaGreat
open Go
section
variable {P : Program} {ops : Array Oper} {Q : Exit → Act → World → Prop} {md : Region.Mode} {S : World → Prop} {L : Nat}
theorem anyK_first2 {i : Nat} {oi : Oper} {v : Value} (hi : ops[i]? = some oi) (hsel : ∀ (j : Nat) (o : Oper) cs b, ops[j]? = some o → o.op ≠ .select cs b)
 (hQ : ∀ c a w, Q (.panic c) (a.put oi.dst v) w → Q (.panic c) a w) (hL : ops[L]? = none) (n : Nat) : ∀ (listed : Array Bool) (a : Act) (w : World),
  (∀ j oj, ops[j]? = some oj → j ≠ i → listed.getD j true = false → (∀ e ∈ oj.after, Region.binds md e = true → e.on ≠ i) → oi.apart ops oj = true) →
  i ∈ Region.ready md ops listed → YieldsIf P ops S oi v a → S w →
  anyK P md ops Q S L n (listed.setIfInBounds i true) (a.put oi.dst v) w → anyK P md ops Q S L (n + 1) listed a w := by
 induction n with
 | zero =>
  intro listed a w _ hr hy hS H
  refine ⟨fun e => absurd hr (by rw [e]; simp), fun j hj => ?_⟩
  rcases Nat.decEq j i with hne | heq
  · have hm := ready_mono hj hne
    rw [H.1] at hm
    cases hm
  · subst heq
    exact hy.wpOp hi hS ⟨.inr hS, H⟩
 | succ n ih =>
  intro listed a w hfree hr hy hS H
  refine ⟨fun e => absurd hr (by rw [e]; simp), fun j hj => ?_⟩
  rcases Nat.decEq j i with hne | heq
  · obtain ⟨hju, oj, hoj, hall⟩ := mem_ready.1 hj
    have hunl := (mem_ready.1 hr).1
    have hno : ∀ e ∈ oj.after, Region.binds md e = true → e.on ≠ i := by
     intro e he hb heq
     have h1 := hall e he hb
     rw [heq] at h1
     by_cases hsz : i < listed.size
     · simp [hsz] at hunl h1
       rw [hunl] at h1
       cases h1
     · simp [Array.getElem?_eq_none (Nat.le_of_not_lt hsz)] at h1
    have hjL : j ≠ L := by
     intro e
     subst e
     rw [hL] at hoj
     cases hoj
    have step := wpOp_putIf hoj (hfree j oj hoj hne hju hno) (fun cs b => hsel i oi cs b hi) (fun cs b => hsel j oj cs b hoj) hQ hy (H.2 j (ready_mono hj hne))
    refine wpOp_mono (fun a' w' k => ?_) step
    obtain ⟨k1, k2, k3⟩ := k
    rcases k2 with k2 | k2
    · exact absurd k2 hjL
    · refine ⟨.inr k2, ih (listed.setIfInBounds j true) a' w' ?_ (ready_mono hr (fun e => hne e.symm)) k1 k2 ?_⟩
      · intro q oq hq hqi hun hnq
        refine hfree q oq hq hqi ?_ hnq
        by_cases hjq : j = q
        · subst hjq; exact hju
        · rw [getD_set_ne true hjq] at hun; exact hun
      · rw [Array.setIfInBounds_comm _ _ hne]
        exact k3
  · subst heq
    exact hy.wpOp hi hS ⟨.inr hS, H⟩
theorem anyK_take2 {i : Nat} {oi : Oper} {v : Value} {n : Nat} {listed : Array Bool} {a : Act} {w : World} (hi : ops[i]? = some oi) (hs : Region.noSelect ops = true) (hf : Region.free md ops listed i = true) (hr : (Region.ready md ops listed).contains i = true) (hL : ops[L]? = none)
 (hQ : ∀ c a w, Q (.panic c) (a.put oi.dst v) w → Q (.panic c) a w) (hw : Region.wanted oi (yielded ops a.tmps) = true) (hS : S w) (hy : ∀ w, S w → (execOp a.eval oi).run P w = .ok (.value v) w) (d : Option Tmp) (hd : oi.dst = d)
 (h : anyK P md ops Q S L n (listed.setIfInBounds i true) (a.put d v) w) : anyK P md ops Q S L (n + 1) listed a w :=
 anyK_first2 hi (Region.noSelect_spec hs) hQ hL n listed a w (Region.free_spec hi hf) (by simpa using hr) (.inl ⟨hw, hy⟩) hS (by rw [hd]; exact h)
end
end Go.Proofs.YtjcjoabblafboaaGreat
/- A region that draws its order: what stands may become more on the way; what is not wanted is passed by. No statement of its own; no conditions. -/

namespace Go.Proofs.YtjcjoabblafboaaGreat
open Go
section
variable {P : Program} {ops : Array Oper} {Q : Exit → Act → World → Prop} {md : Region.Mode} {S S' : World → Prop} {L : Nat}
theorem anyK_skip {i : Nat} {oi : Oper} {n : Nat} {listed : Array Bool} {a : Act} {w : World} (hi : ops[i]? = some oi) (hs : Region.noSelect ops = true) (hf : Region.free md ops listed i = true) (hr : (Region.ready md ops listed).contains i = true) (hL : ops[L]? = none)
 (hQ : ∀ c a w, Q (.panic c) (a.put oi.dst undef) w → Q (.panic c) a w) (hw : Region.wanted oi (yielded ops a.tmps) = false) (hS : S w) (d : Option Tmp) (hd : oi.dst = d)
 (h : anyK P md ops Q S L n (listed.setIfInBounds i true) (a.put d undef) w) : anyK P md ops Q S L (n + 1) listed a w :=
 anyK_first2 hi (Region.noSelect_spec hs) hQ hL n listed a w (Region.free_spec hi hf) (by simpa using hr) (.inr ⟨hw, rfl⟩) hS (by rw [hd]; exact h)
end
end Go.Proofs.YtjcjoabblafboaaGreat
/- An append of whatever row to a row of the call's own, at a step of a region that draws and at a plain one; rows of rows that grow. No statement of its own; no conditions. -/




namespace Go.Proofs.YtjcjoabblafboaaGreat
open Go.RowKit
theorem own_sl {w : World} {base n : Nat} {e : TypeId} {s : Nat} {v : Value} {xs : List Value} (h : w.ownsRow base e s v n xs) : ∃ a c, v = .slice a n c := by
 rcases h.2 with ⟨rfl, rfl⟩ | ⟨g, cap, cur, rfl, _⟩
 · exact ⟨none, 0, rfl⟩
 · exact ⟨_, cap, rfl⟩
section
variable {P : Program} {w : World}
theorem run_append_row (t ty : TypeId) (base : Nat) (e : TypeId) (i : TypeInfo) (z : Value) (size bytes : Nat) (ht : P.underlying t = some (.slice e)) (hi : P.info? e = some i) (hz : i.zero = some z)
 (hsize : i.size = size) (hby : i.bytes = bytes) (hzs : z.cells.size = size) (hsz : 0 < size)
 (v : Value) (n : Nat) (xs : List Value) (hown : w.ownsRow base e size v n xs)
 (ad : Option Addr) (m c : Nat) (news : List Value) (hl : news.length = m * size) (hnews : (ad = none ∧ c = 0) ∨ ∃ p, ad = some p ∧ ∀ j u, news[j]? = some u → w.cell? (p.add j) = some u) (hnil : ad = none → m = 0) (h1 : ∀ u ∈ news, u.oneCell' = true)
 (h63 : n + m ≤ maxLen) (hbytes : (n + m) * bytes ≤ 140737488355328) (hbase : base ≤ w.heap.size) :
 ∃ a' cap w', (Builtin.append_ #[t, t] ty #[v, .slice ad m c]).run P w = .ok (.slice a' (n + m) cap) w' ∧
  w'.ownsRow base e size (.slice a' (n + m) cap) (n + m) (xs ++ news) ∧ w.grownBy w' v.ownBlock := by
 rcases hnews with ⟨rfl, rfl⟩ | ⟨p, rfl, hn⟩
 · obtain rfl := hnil rfl
   obtain rfl : news = [] := List.eq_nil_of_length_eq_zero (by omega)
   obtain ⟨a', c', rfl⟩ := own_sl hown
   exact ⟨a', c', w, run_append_owned_none (P := P) (w := w) base t ty e i size ht hi _ n xs hown, by simpa using hown, grown_refl _ _⟩
 · obtain ⟨v', w', hr, h2, h3, _, _⟩ := run_append_own_at (P := P) w base t ty e i z size bytes ht hi hz hsize hby hzs hsz v n xs hown p m c news hl hn h1 h63 hbytes hbase
   obtain ⟨a', c', rfl⟩ := own_sl h2
   exact ⟨a', c', w', hr, h2, h3⟩
theorem wp_append_row {o : Oper} {a : Act} {K : Act → World → Prop} {Q : Exit → Act → World → Prop} (s x : Operand) (t : TypeId)
 (ho : o.op = .call { callee := .builtin .append, args := #[s, x], argTypes := #[t, t] })
 (base : Nat) (e : TypeId) (i : TypeInfo) (z : Value) (size bytes : Nat) (ht : P.underlying t = some (.slice e)) (hi : P.info? e = some i) (hz : i.zero = some z)
 (hsize : i.size = size) (hby : i.bytes = bytes) (hzs : z.cells.size = size) (hsz : 0 < size)
 (v : Value) (n : Nat) (xs : List Value) (hs : a.eval s = v) (hown : w.ownsRow base e size v n xs)
 (ad : Option Addr) (m c : Nat) (news : List Value) (hx : a.eval x = .slice ad m c) (hl : news.length = m * size) (hnews : (ad = none ∧ c = 0) ∨ ∃ p, ad = some p ∧ ∀ j u, news[j]? = some u → w.cell? (p.add j) = some u) (hnil : ad = none → m = 0) (h1 : ∀ u ∈ news, u.oneCell' = true)
 (h63 : n + m ≤ maxLen) (hbytes : (n + m) * bytes ≤ 140737488355328) (hbase : base ≤ w.heap.size)
 (h : ∀ a' cap w', w'.ownsRow base e size (.slice a' (n + m) cap) (n + m) (xs ++ news) → w.grownBy w' v.ownBlock → K (a.put o.dst (.slice a' (n + m) cap)) w') : o.wp P a w K Q := by
 obtain ⟨a', cap, w', hr, h2, h3⟩ := run_append_row (P := P) (w := w) t o.type base e i z size bytes ht hi hz hsize hby hzs hsz v n xs hown ad m c news hl hnews hnil h1 h63 hbytes hbase
 unfold Oper.wp execOp
 simp only [ho, resolve, invoke, builtin, Sem.run_bind, Sem.run_pure, Result.andThen_ok, List.map_toArray, List.map_cons, List.map_nil, hs, hx, hr]
 exact h a' cap w' h2 h3
theorem wpList_append_row {ops : Array Oper} {rest : List Oper} {o : Oper} {a : Act} {Q : Exit → Act → World → Prop} (hgd : o.guard = none) (s x : Operand) (t : TypeId)
 (ho : o.op = .call { callee := .builtin .append, args := #[s, x], argTypes := #[t, t] })
 (base : Nat) (e : TypeId) (i : TypeInfo) (z : Value) (size bytes : Nat) (ht : P.underlying t = some (.slice e)) (hi : P.info? e = some i) (hz : i.zero = some z)
 (hsize : i.size = size) (hby : i.bytes = bytes) (hzs : z.cells.size = size) (hsz : 0 < size)
 (v : Value) (n : Nat) (xs : List Value) (hs : a.eval s = v) (hown : w.ownsRow base e size v n xs)
 (ad : Option Addr) (m c : Nat) (news : List Value) (hx : a.eval x = .slice ad m c) (hl : news.length = m * size) (hnews : (ad = none ∧ c = 0) ∨ ∃ p, ad = some p ∧ ∀ j u, news[j]? = some u → w.cell? (p.add j) = some u) (hnil : ad = none → m = 0) (h1 : ∀ u ∈ news, u.oneCell' = true)
 (h63 : n + m ≤ maxLen) (hbytes : (n + m) * bytes ≤ 140737488355328) (hbase : base ≤ w.heap.size)
 (h : ∀ a' cap w', w'.ownsRow base e size (.slice a' (n + m) cap) (n + m) (xs ++ news) → w.grownBy w' v.ownBlock → wpList P ops Q rest (a.put o.dst (.slice a' (n + m) cap)) w') : wpList P ops Q (o :: rest) a w :=
 wpList_plain hgd fun _ hK => wp_append_row s x t ho base e i z size bytes ht hi hz hsize hby hzs hsz v n xs hs hown ad m c news hx hl hnews hnil h1 h63 hbytes hbase fun a' cap w' h2 h3 => hK _ _ (h a' cap w' h2 h3)
end
theorem bel_dN {B : Nat} {a w : World} (h : Below B a w) (k : Nat) : Below B a (w.drewN k) := h.trans (Below.drewN w k)
end Go.Proofs.YtjcjoabblafboaaGreat
