/- Whether deeds read the same in an order: plain, and the contract of the program's GraphSerial. Conditions: texts of at most 2^21 bytes. -/
import Derived.Test.YtecdnheopmojfaaGreatHu14
import Derived.Test.YtecdnheopmojfaaGreatHc14
namespace Go.Proofs.YtecdnheopmojfaaGreat
open Go.RowKit
set_option maxRecDepth 100000
def wrsOf (ts : List Tk) (x : Im) : List Nat := (List.range ts.length).filter (fun p => wrB (ts.getD p tk0) x)
def endsOf (ts : List Tk) : List Int := ts.map (·.ended)
def sameR (ts : List Tk) (O : List Int) (d : Nat) (x : Im) : Prop := lastW (trn O ts.length) (tI O (d : Int)) (wrsOf ts x) = lastW (endsOf ts) (ts.getD d tk0).begun (wrsOf ts x)
def serP (ts : List Tk) (O : List Int) : Prop := okDs ts ∧ isOrd O ts.length ∧ ∀ d, d < ts.length → ∀ t ∈ ts, ∀ x ∈ t.ws, rdB (ts.getD d tk0) x = true → sameR ts O d x
open Classical in
noncomputable def serB (ts : List Tk) (O : List Int) : Bool := decide (serP ts O)
theorem serB_yes {ts : List Tk} {O : List Int} (h : serP ts O) : serB ts O = true := by simp [serB, h]
theorem serB_no {ts : List Tk} {O : List Int} (h : ¬ serP ts O) : serB ts O = false := by simp [serB, h]
theorem inM_same {p : Im × Im} {x y : Im} (h1 : okM p.1 = true) (h2 : okM p.2 = true) (hx : okM x = true) (hy : okM y = true) (h : cmpM y x = 0) : inM p x = inM p y := by
 rw [inM_iff h1 h2 hx, inM_iff h1 h2 hy]
 have e1 := cmpM_eq hy hx h2 h
 have e2 := cmpM_eq hy hx h1 h
 have a1 := cmpM_anti h1 hx
 have a2 := cmpM_anti h1 hy
 rw [Bool.eq_iff_iff, decide_eq_true_iff, decide_eq_true_iff]
 constructor <;> (rintro ⟨b1, b2⟩; exact ⟨by omega, by omega⟩)
theorem anyS_same {rs : List (Im × Im)} {x y : Im} (h : ∀ p ∈ rs, spB p = true) (hx : okM x = true) (hy : okM y = true) (e : cmpM y x = 0) : anyS rs x = anyS rs y := by
 unfold anyS
 rw [Bool.eq_iff_iff, List.any_eq_true, List.any_eq_true]
 constructor
 · rintro ⟨p, hp, q⟩
   exact ⟨p, hp, by rw [← inM_same (spB_ok (h p hp)).1 (spB_ok (h p hp)).2.1 hx hy e]; exact q⟩
 · rintro ⟨p, hp, q⟩
   exact ⟨p, hp, by rw [inM_same (spB_ok (h p hp)).1 (spB_ok (h p hp)).2.1 hx hy e]; exact q⟩
theorem okDs_mem {ts : List Tk} (h : okDs ts) {t : Tk} (ht : t ∈ ts) : (∀ p ∈ t.rs, spB p = true) ∧ ∀ x ∈ t.ws, okM x = true := by
 obtain ⟨i, hi, rfl⟩ := List.getElem_of_mem ht
 have := okDs_at h hi
 rw [show ts.getD i tk0 = ts[i] by simp [List.getD, hi]] at this
 exact ⟨this.2.2.1, this.2.2.2⟩
theorem getD_tk {ts : List Tk} {i : Nat} (h : i < ts.length) : ts.getD i tk0 ∈ ts := by
 rw [show ts.getD i tk0 = ts[i] by simp [List.getD, h]]; exact List.getElem_mem h
section
variable {ts : List Tk} {ks : List Im} (hok : okDs ts)
include hok
theorem wr_same {x y : Im} (hx : okM x = true) (hy : okM y = true) (e : cmpM y x = 0) : wrsOf ts x = wrsOf ts y := by
 unfold wrsOf
 refine List.filter_congr (fun p hp => ?_)
 have := okDs_mem hok (getD_tk (List.mem_range.1 hp))
 exact anyS_same (dupM_ok this.2) hx hy e
theorem rd_same {x y : Im} (hx : okM x = true) (hy : okM y = true) (e : cmpM y x = 0) {d : Nat} (hd : d < ts.length) : rdB (ts.getD d tk0) x = rdB (ts.getD d tk0) y :=
 anyS_same (okDs_mem hok (getD_tk hd)).1 hx hy e
theorem ser_keys (hk : KeysOf ts ks) (O : List Int) : (∀ d, d < ts.length → ∀ t ∈ ts, ∀ x ∈ t.ws, rdB (ts.getD d tk0) x = true → sameR ts O d x) ↔ ∀ i, i < ks.length → ∀ d ∈ useL ts ks ts.length (i * 2 + 1), sameR ts O d (ks.getD i im0) := by
 have hu : ∀ i d, d ∈ useL ts ks ts.length (i * 2 + 1) ↔ d < ts.length ∧ rdB (ts.getD d tk0) (ks.getD i im0) = true := by
  intro i d
  unfold useL useB
  rw [List.mem_filter, List.mem_range, if_neg (by omega), show (i * 2 + 1) / 2 = i by omega]
 constructor
 · intro h i hi d hd
   obtain ⟨h1, h2⟩ := (hu i d).1 hd
   have hm : ks.getD i im0 ∈ ks := by rw [show ks.getD i im0 = ks[i] by simp [List.getD, hi]]; exact List.getElem_mem hi
   obtain ⟨t, ht, hx⟩ := hk.frm _ hm
   exact h d h1 t ht _ hx h2
 · intro h d hd t ht x hx hr
   have ox := (okDs_mem hok ht).2 x hx
   obtain ⟨y, hy, e⟩ := hk.cov t ht x hx
   have oy := hk.ok y hy
   obtain ⟨i, hi, hi2⟩ := List.getElem_of_mem hy
   have hgi : ks.getD i im0 = y := by rw [← hi2]; simp [List.getD, hi]
   have := h i hi d ((hu i d).2 ⟨hd, by rw [hgi, ← rd_same hok ox oy e hd]; exact hr⟩)
   rw [hgi] at this
   unfold sameR at *
   rw [wr_same hok ox oy e]
   exact this
end
theorem use_wr {ts : List Tk} {ks : List Im} (i : Nat) : useL ts ks ts.length (i * 2) = wrsOf ts (ks.getD i im0) := by
 unfold useL wrsOf
 refine List.filter_congr (fun p _ => ?_)
 unfold useB
 rw [if_pos (by omega), show i * 2 / 2 = i by omega]
theorem useL_lt {ts : List Tk} {ks : List Im} {n q d : Nat} (h : d ∈ useL ts ks n q) : d < n := by
 unfold useL at h
 rw [List.mem_filter, List.mem_range] at h
 exact h.1
theorem ends_at {ts : List Tk} {i : Nat} (h : i < ts.length) : (endsOf ts).getD i 0 = (ts.getD i tk0).ended := by simp [endsOf, List.getD, h]
theorem ends_take {ts : List Tk} {k : Nat} (h : k < ts.length) : endsOf (ts.take (k + 1)) = endsOf (ts.take k) ++ [(ts.getD k tk0).ended] := by
 unfold endsOf
 rw [take_tk ts h, List.map_append]; rfl
theorem ends_bd {ts : List Tk} (h : bdTs ts) (i : Nat) : -9223372036854775808 ≤ (endsOf ts).getD i 0 ∧ (endsOf ts).getD i 0 ≤ 9223372036854775807 := by
 by_cases hi : i < ts.length
 · rw [ends_at hi]; exact (h i).2.2
 · rw [show (endsOf ts).getD i 0 = 0 by simp [endsOf, List.getD, hi]]; omega
theorem tI_bd {O : List Int} (x : Int) (h : O.length ≤ 100) : -1 ≤ tI O x ∧ tI O x ≤ 100 := by
 unfold tI
 split
 · have := List.idxOf_le_length (a := x) (l := O); omega
 · omega
theorem trn_bd {O : List Int} {n : Nat} (h : O.length ≤ 100) (i : Nat) : -9223372036854775808 ≤ (trn O n).getD i 0 ∧ (trn O n).getD i 0 ≤ 9223372036854775807 := by
 by_cases hi : i < n
 · rw [trn_at O hi]; have := tI_bd (i : Int) h; omega
 · rw [show (trn O n).getD i 0 = 0 by simp [trn, List.getD, hi]]; omega
theorem nI_bd {P : List Nat} (h : ∀ p ∈ P, p < 1048576) (i : Nat) : -9223372036854775808 ≤ (nI P).getD i 0 ∧ (nI P).getD i 0 ≤ 9223372036854775807 := by
 by_cases hi : i < P.length
 · have : (nI P).getD i 0 = ((P[i] : Nat) : Int) := by simp [nI, List.getD, hi]
   rw [this]
   have := h _ (List.getElem_mem hi)
   omega
 · rw [show (nI P).getD i 0 = 0 by simp [nI, List.getD, hi]]; omega
theorem own_readsI {w : World} {base n m c : Nat} {a : Option Addr} {zs : List Int} (o : w.ownsRow base 3 1 (.slice a m c) n (ins zs)) (hb : ∀ i, -9223372036854775808 ≤ zs.getD i 0 ∧ zs.getD i 0 ≤ 9223372036854775807) : ReadsI w a n zs := by
 refine ⟨by have := o.1; rw [ins_length] at this; omega, ?_, hb⟩
 rcases o.2 with ⟨e, h0⟩ | ⟨g, cap, cur, e, _⟩
 · exact .inl h0
 · obtain ⟨rfl, e2, rfl⟩ := Value.slice.inj e
   subst e2
   refine .inr ⟨g, 0, rfl, fun i hi => ?_⟩
   rw [Nat.zero_add, o.cellAt i (by omega), getD_ins, List.getD_eq_getElem?_getD]
   have hl : i < zs.length := by have := o.1; rw [ins_length] at this; omega
   rw [List.getElem?_eq_getElem hl]; rfl
end Go.Proofs.YtecdnheopmojfaaGreat
