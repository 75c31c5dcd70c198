/- Whether deeds read the same in an order: plain, and the contract of the program's GraphSerial. Conditions: texts of at most 2^21 bytes. -/
import Derived.Test.YtnbpblephmjfnaaGreatMgf
import Derived.Test.YtnbpblephmjfnaaGreatHc14
namespace Go.Proofs.YtnbpblephmjfnaaGreat
open Go.RowKit
set_option maxRecDepth 100000
def wrsOf (ts : List Tk) (x : Im) : List Nat := (List.range ts.length).filter (fun p => wrB (ts.getD p tk0) x)
def endsOf (ts : List Tk) : List Int := ts.map (·.ended)
def sameR (ts : List Tk) (O : List Int) (d : Nat) (x : Im) : Prop := lastW (trn O ts.length) (tI O (d : Int)) (wrsOf ts x) = lastW (endsOf ts) (ts.getD d tk0).begun (wrsOf ts x)
def serP (ts : List Tk) (O : List Int) : Prop := okDs ts ∧ isOrd O ts.length ∧ ∀ d, d < ts.length → ∀ t ∈ ts, ∀ x ∈ t.ws, rdB (ts.getD d tk0) x = true → sameR ts O d x
open Classical in
noncomputable def serB (ts : List Tk) (O : List Int) : Bool := decide (serP ts O)
theorem inM_same {p : Im × Im} {x y : Im} (h1 : okM p.1 = true) (h2 : okM p.2 = true) (hx : okM x = true) (hy : okM y = true) (h : cmpM y x = 0) : inM p x = inM p y := by
 rw [inM_iff h1 h2 hx, inM_iff h1 h2 hy]
 have e1 := cmpM_eq hy hx h2 h
 have e2 := cmpM_eq hy hx h1 h
 have a1 := cmpM_anti h1 hx
 have a2 := cmpM_anti h1 hy
 rw [Bool.eq_iff_iff, decide_eq_true_iff, decide_eq_true_iff]
 constructor <;> (rintro ⟨b1, b2⟩; exact ⟨by omega, by omega⟩)
theorem anyS_same {rs : List (Im × Im)} {x y : Im} (h : ∀ p ∈ rs, spB p = true) (hx : okM x = true) (hy : okM y = true) (e : cmpM y x = 0) : anyS rs x = anyS rs y := by
 unfold anyS
 rw [Bool.eq_iff_iff, List.any_eq_true, List.any_eq_true]
 constructor
 · rintro ⟨p, hp, q⟩
   exact ⟨p, hp, by rw [← inM_same (spB_ok (h p hp)).1 (spB_ok (h p hp)).2.1 hx hy e]; exact q⟩
 · rintro ⟨p, hp, q⟩
   exact ⟨p, hp, by rw [inM_same (spB_ok (h p hp)).1 (spB_ok (h p hp)).2.1 hx hy e]; exact q⟩
theorem okDs_mem {ts : List Tk} (h : okDs ts) {t : Tk} (ht : t ∈ ts) : (∀ p ∈ t.rs, spB p = true) ∧ ∀ x ∈ t.ws, okM x = true := by
 obtain ⟨i, hi, rfl⟩ := List.getElem_of_mem ht
 have := okDs_at h hi
 rw [show ts.getD i tk0 = ts[i] by simp [List.getD, hi]] at this
 exact ⟨this.2.2.1, this.2.2.2⟩
theorem getD_tk {ts : List Tk} {i : Nat} (h : i < ts.length) : ts.getD i tk0 ∈ ts := by
 rw [show ts.getD i tk0 = ts[i] by simp [List.getD, h]]; exact List.getElem_mem h
section
variable {ts : List Tk} {ks : List Im} (hok : okDs ts)
include hok
end
theorem useL_lt {ts : List Tk} {ks : List Im} {n q d : Nat} (h : d ∈ useL ts ks n q) : d < n := by
 unfold useL at h
 rw [List.mem_filter, List.mem_range] at h
 exact h.1
theorem nI_bd {P : List Nat} (h : ∀ p ∈ P, p < 1048576) (i : Nat) : -9223372036854775808 ≤ (nI P).getD i 0 ∧ (nI P).getD i 0 ≤ 9223372036854775807 := by
 by_cases hi : i < P.length
 · have : (nI P).getD i 0 = ((P[i] : Nat) : Int) := by simp [nI, List.getD, hi]
   rw [this]
   have := h _ (List.getElem_mem hi)
   omega
 · rw [show (nI P).getD i 0 = 0 by simp [nI, List.getD, hi]]; omega
theorem own_readsI {w : World} {base n m c : Nat} {a : Option Addr} {zs : List Int} (o : w.ownsRow base 3 1 (.slice a m c) n (ins zs)) (hb : ∀ i, -9223372036854775808 ≤ zs.getD i 0 ∧ zs.getD i 0 ≤ 9223372036854775807) : ReadsI w a n zs := by
 refine ⟨by have := o.1; rw [ins_length] at this; omega, ?_, hb⟩
 rcases o.2 with ⟨e, h0⟩ | ⟨g, cap, cur, e, _⟩
 · exact .inl h0
 · obtain ⟨rfl, e2, rfl⟩ := Value.slice.inj e
   subst e2
   refine .inr ⟨g, 0, rfl, fun i hi => ?_⟩
   rw [Nat.zero_add, o.cellAt i (by omega), getD_ins, List.getD_eq_getElem?_getD]
   have hl : i < zs.length := by have := o.1; rw [ins_length] at this; omega
   rw [List.getElem?_eq_getElem hl]; rfl
end Go.Proofs.YtnbpblephmjfnaaGreat
