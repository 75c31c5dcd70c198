/- Where an active track stands, plain, and the contract of the specification's l13at. No conditions. -/
import Derived.Test.YtnhlfkffllbpiaaGreatEp13
namespace Go.Proofs.YtnhlfkffllbpiaaGreat
open Go.RowKit
set_option maxRecDepth 100000
def actB (t : Tk) (x : Int) : Bool := decide (t.xid = x) && decide (t.ended = 0)
def atF (x : Int) : List Tk → Nat → Option Nat
 | [], _ => none
 | t :: ts, i => if actB t x = true then some i else atF x ts (i + 1)
def atT (ts : List Tk) (x : Int) : Option Nat := atF x ts 0
def atI (ts : List Tk) (x : Int) : Int := match atT ts x with | some k => (k : Int) | none => -1
theorem atF_at (x : Int) : ∀ (ts : List Tk) (i k : Nat), k < ts.length → (∀ j, j < k → actB (ts.getD j tk0) x = false) → actB (ts.getD k tk0) x = true → atF x ts i = some (i + k)
 | t :: ts, i, 0, _, _, h => by
  rw [List.getD_cons_zero] at h
  unfold atF
  rw [if_pos h]; rfl
 | t :: ts, i, k + 1, hk, hj, h => by
  have h0 := hj 0 (by omega)
  rw [List.getD_cons_zero] at h0
  unfold atF
  rw [if_neg (by rw [h0]; simp), atF_at x ts (i + 1) k (by simpa using hk) (fun j h1 => by have := hj (j + 1) (by omega); simpa using this) (by simpa using h)]
  congr 1; omega
theorem atF_none (x : Int) : ∀ (ts : List Tk) (i : Nat), (∀ j, j < ts.length → actB (ts.getD j tk0) x = false) → atF x ts i = none
 | [], _, _ => rfl
 | t :: ts, i, hj => by
  have h0 := hj 0 (by simp)
  rw [List.getD_cons_zero] at h0
  unfold atF
  rw [if_neg (by rw [h0]; simp)]
  exact atF_none x ts (i + 1) (fun j h1 => by have := hj (j + 1) (by simpa using h1); simpa using this)
theorem atF_some (x : Int) : ∀ (ts : List Tk) (i k : Nat), atF x ts i = some k → i ≤ k ∧ k < i + ts.length ∧ actB (ts.getD (k - i) tk0) x = true
 | t :: ts, i, k, h => by
  unfold atF at h
  split at h
  · rename_i ha
    injection h with h; subst h
    rw [Nat.sub_self, List.getD_cons_zero]
    exact ⟨Nat.le_refl _, by simp, ha⟩
  · obtain ⟨h1, h2, h3⟩ := atF_some x ts (i + 1) k h
    refine ⟨by omega, by simp; omega, ?_⟩
    rw [show k - i = (k - (i + 1)) + 1 by omega, List.getD_cons_succ]
    exact h3
theorem atT_some {ts : List Tk} {x : Int} {k : Nat} (h : atT ts x = some k) : k < ts.length ∧ (ts.getD k tk0).xid = x ∧ (ts.getD k tk0).ended = 0 := by
 obtain ⟨_, h2, h3⟩ := atF_some x ts 0 k h
 rw [Nat.sub_zero] at h3
 unfold actB at h3
 rw [Bool.and_eq_true, decide_eq_true_eq, decide_eq_true_eq] at h3
 exact ⟨by omega, h3⟩
set_option maxHeartbeats 3200000 in
theorem spec_l13at {ad : Option Addr} {n : Nat} (cap : Nat) {ts : List Tk} {w : World} (h : ReadsT w ad ts) (hl : ts.length = n) (hn : n ≤ 2097152) (x : Int) :
 Calls Tryz.prog 17 #[.slice ad n cap, .int .i64 x] w fun e w' => e = .returned (.int .i64 (atI ts x)) ∧ w' = w := by
 go_enter Tryz.func17, Tryz.ntmps17
 go_wp2
 go_loopw [5] (fun i wr => ∃ k : Nat, k ≤ n ∧ i = .int .i64 k ∧ Hid (∀ j, j < k → actB (ts.getD j tk0) x = false) ∧ wr = w) (fun i _ => n - (intOf i).toNat)
 case atStart => exact ⟨0, Nat.zero_le _, rfl, hid (fun j hj => by omega), rfl⟩
 case round =>
  obtain ⟨k, hk, rfl, HN, rfl⟩ := hrel
  by_cases hlt : k < n
  · have hlt' : (k : Int) < (n : Int) := by omega
    have hk0 : (0 : Int) ≤ (k : Int) := by omega
    obtain ⟨b, off, a1, c1, a2, c2, rfl, bx, _, _, _, _⟩ := h.at (k := k) (by omega)
    have HY := hid (fun (e : actB (ts.getD k tk0) x = true) => show atI ts x = (k : Int) by
     unfold atI atT
     rw [atF_at x ts 0 k (by omega) HN.out e, Nat.zero_add])
    have HNx := hid (fun (e : actB (ts.getD k tk0) x = false) j (hj : j < k + 1) => show actB (ts.getD j tk0) x = false from by
     by_cases hc : j < k
     · exact HN.out j hc
     · have : j = k := by omega
       subst this; exact e)
    have x0 := bx.c0
    have x2 := bx.c2
    have hA : actB (ts.getD k tk0) x = (decide ((ts.getD k tk0).xid = x) && decide ((ts.getD k tk0).ended = 0)) := rfl
    generalize (ts.getD k tk0).xid = xk at *
    generalize (ts.getD k tk0).ended = ek at *
    by_cases h1 : xk = x
    · have q1 : (xk == x) = true := by simpa using h1
      by_cases h2 : ek = 0
      · have q2 : (ek == 0) = true := by simpa using h2
        have HF := hid (HY.out (by rw [hA, decide_eq_true h1, decide_eq_true h2]; rfl))
        clear h1 h2 hA bx
        go_wp2_with fail
        go_ret
        exact ⟨by rw [HF.out]; rfl, rfl⟩
      · have q2 : (ek == 0) = false := by simpa using h2
        have HF := hid (HNx.out (by rw [hA, decide_eq_false h2, Bool.and_false]))
        clear h1 h2 hA bx
        go_wp2_with fail
        go_roundw
        case rel => exact ⟨k + 1, by omega, by go_num, HF, by trivial⟩
        case measure => simp [intOf]; omega
    · have q1 : (xk == x) = false := by simpa using h1
      have HF := hid (HNx.out (by rw [hA, decide_eq_false h1, Bool.false_and]))
      clear h1 hA bx
      go_wp2_with fail
      go_roundw
      case rel => exact ⟨k + 1, by omega, by go_num, HF, by trivial⟩
      case measure => simp [intOf]; omega
  · have hlt' : ¬ (k : Int) < (n : Int) := by omega
    have HF := hid (show atI ts x = -1 by
     unfold atI atT
     rw [atF_none x ts 0 (fun j hj => HN.out j (by omega))])
    go_wp2
    go_ret
    exact ⟨by rw [HF.out]; rfl, rfl⟩
end Go.Proofs.YtnhlfkffllbpiaaGreat
