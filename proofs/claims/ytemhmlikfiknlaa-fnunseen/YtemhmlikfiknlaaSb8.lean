/- Statuses: a list with one status set; the contracts of both StatusSet. Conditions: lists of at most 2^40 numbers; a nil one has no room. -/
import Derived.Test.YtemhmlikfiknlaaSa8
import Derived.Test.YtemhmlikfiknlaaPs
namespace Go.Proofs.Ytemhmlikfiknlaa
open Go.RowKit
set_option maxRecDepth 100000

def setOk (l : List Int) (x s : Int) : Bool := decide (l.length ≤ 401 ∧ (1 ≤ x ∧ x ≤ 400) ∧ (0 ≤ s ∧ s ≤ 2))
def grow (l : List Int) (n : Nat) : List Int := l ++ List.replicate (n - l.length) 0
def setS (l : List Int) (x s : Int) : List Int := if setOk l x s = true then (grow l (x.toNat + 1)).set x.toNat s else []
theorem grow_length (l : List Int) (n : Nat) : (grow l n).length = max l.length n := by simp [grow]; omega
theorem setOk_of {l : List Int} {x s : Int} (h : setOk l x s = true) : l.length ≤ 401 ∧ (1 ≤ x ∧ x ≤ 400) ∧ (0 ≤ s ∧ s ≤ 2) := of_decide_eq_true h
theorem setS_yes {l : List Int} {x s : Int} (h : setOk l x s = true) : setS l x s = (grow l (x.toNat + 1)).set x.toNat s := by unfold setS; rw [if_pos h]
theorem setS_no {l : List Int} {x s : Int} (h : setOk l x s = false) : setS l x s = [] := by unfold setS; rw [h]; rfl
theorem getD_replicate0 (k i : Nat) : (List.replicate k (0 : Int)).getD i 0 = 0 := by
  rw [List.getD_eq_getElem?_getD, List.getElem?_replicate]; split <;> rfl
theorem grow_at (l : List Int) (n i : Nat) : (grow l n).getD i 0 = l.getD i 0 := by
  unfold grow
  by_cases h : i < l.length
  · rw [List.getD_eq_getElem?_getD, List.getElem?_append_left h, ← List.getD_eq_getElem?_getD]
  · rw [List.getD_eq_getElem?_getD, List.getElem?_append_right (by omega), ← List.getD_eq_getElem?_getD, getD_replicate0, List.getD_eq_getElem?_getD, List.getElem?_eq_none (by omega)]; rfl
theorem set_at (l : List Int) (k i : Nat) (s : Int) (hk : k < l.length) : (l.set k s).getD i 0 = if i = k then s else l.getD i 0 := by
  rw [List.getD_eq_getElem?_getD, List.getElem?_set]
  by_cases h : k = i
  · subst h; simp [hk]
  · rw [if_neg h, if_neg (fun q => h q.symm), List.getD_eq_getElem?_getD]
theorem setS_small {l : List Int} (hb : ∀ i, -9223372036854775808 ≤ l.getD i 0 ∧ l.getD i 0 ≤ 9223372036854775807) (x s : Int) : (setS l x s).length ≤ 1500000 ∧ ∀ i, -9223372036854775808 ≤ (setS l x s).getD i 0 ∧ (setS l x s).getD i 0 ≤ 9223372036854775807 := by
  cases h : setOk l x s with
  | false => rw [setS_no h]; simp
  | true =>
    have k := setOk_of h
    rw [setS_yes h]
    refine ⟨by rw [List.length_set, grow_length]; omega, fun i => ?_⟩
    rw [set_at _ _ _ _ (by rw [grow_length]; omega), grow_at]
    split
    · omega
    · exact hb i

theorem own_row8 {w : World} {base g n : Nat} {t : TypeId} {xs : List Value} (h : w.heap[g]? = some (.cells xs.toArray t (0, 0))) (hl : xs.length = n) (hn : n ≤ maxLen) (hb : base ≤ g) : w.ownsRow base t 1 (.slice (some ⟨g, 0, none⟩) n n) n xs :=
  ⟨by omega, .inr ⟨g, n, xs.toArray, rfl, hb, h, Nat.le_refl _, hn, by simp [hl], by subst hl; simp⟩⟩
theorem row_own8 {w : World} {base g n : Nat} {t : TypeId} {xs : List Value} (h : w.ownsRow base t 1 (.slice (some ⟨g, 0, none⟩) n n) n xs) : w.heap[g]? = some (.cells xs.toArray t (0, 0)) := by
  rcases h.2 with ⟨e, _⟩ | ⟨g', cap, cur, e, _, hg, _, _, hs, ht⟩
  · cases e
  · cases e
    rw [hg, ← ht, List.take_of_length_le (by simp; omega)]
theorem sizeI : (Try.prog.info? 3).map (·.size) = some 1 := by kernel_rfl
theorem ins_set (l : List Int) (k : Nat) (s : Int) : (ins l).set k (.int .i64 s) = ins (l.set k s) := by simp [ins, List.map_set]
theorem splice_zero (l : List Int) (N : Nat) : splice (List.replicate N (Value.int .i64 0)) 0 (ins l) = ins (grow l N) := by
  unfold splice grow
  simp [ins]
def len8 : Value → Nat | .slice _ n _ => n | _ => 0
/-- copy of whole numbers into a row of the call's own: its run, written out. -/
theorem copyI_in {w w0 : World} {g off B n m : Nat} {t : TypeId} {cur : List Value} (hg : w.heap[g]? = some (.cells cur.toArray t (0, 0))) {ad dp : Option Addr} {zs : List Int} (hr : ReadsI w ad n zs)
    (hdp : 0 < n → dp = some ⟨g, off, none⟩) (hnm : n ≤ m) (hfit : off + n ≤ cur.length) (hb : Below B w0 w) (hBg : B ≤ g) (dCap sCap : Nat) :
    ∃ w', (Builtin.copy_ #[27, 27] 3 #[.slice dp m dCap, .slice ad n sCap]).run Try.prog w = .ok (goInt n) w' ∧ Hid (w'.heap[g]? = some (.cells (splice cur off (ins zs)).toArray t (0, 0))) ∧ Below B w0 w' ∧ w'.heap.size = w.heap.size := by
  have hl : (ins zs).length = n := by rw [ins_length, hr.len]
  by_cases h0 : n = 0
  · subst h0
    have e : ins zs = [] := List.eq_nil_of_length_eq_zero hl
    refine ⟨w, run_copy_none (P := Try.prog) w 27 27 3 3 dp ad m dCap 0 sCap Try.underlying27 sizeI (Nat.min_eq_left (Nat.zero_le _)), ?_, hb, rfl⟩
    unfold Hid; rw [e]; simpa [splice] using hg
  · obtain rfl := hdp (by omega)
    rcases hr.cells with h | ⟨b, o, rfl, hc⟩
    · exact absurd h h0
    have hrun := run_copy_row (P := Try.prog) w 27 27 3 3 g off m dCap ⟨b, o, none⟩ n sCap cur.toArray t (ins zs) Try.underlying27 sizeI hg (by rw [hl]; exact (Nat.min_eq_left hnm).symm) hr.news (by simpa [hl] using hfit) (ins_one _)
    rw [hl] at hrun
    refine ⟨_, hrun, ?_, below_setRow hb hBg _, by simp⟩
    unfold Hid splice
    rw [setRow_heap w g _ _ t _ hg, hl, List.append_assoc]
theorem zero_at (N i : Nat) (h : i < N) : (List.replicate N (Value.int .i64 0))[i]? = some (.int .i64 0) := by rw [List.getElem?_replicate, if_pos h]

theorem grow_snoc (l : List Int) (k : Nat) (h : l.length ≤ k) : grow l (k + 1) = grow l k ++ [0] := by
  unfold grow
  rw [show k + 1 - l.length = (k - l.length) + 1 by omega, List.replicate_succ', List.append_assoc]
theorem grow_self (l : List Int) (k : Nat) (h : k ≤ l.length) : grow l k = l := by
  unfold grow; rw [show k - l.length = 0 by omega]; simp

end Go.Proofs.Ytemhmlikfiknlaa
