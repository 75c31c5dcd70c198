/- Statuses that come back from their bytes, in plain mathematics; the contract of the law's big. No conditions. -/
import Derived.Test.YtioefplkadpfnaaSi8
import Derived.Test.YtioefplkadpfnaaSc8
namespace Go.Proofs.Ytioefplkadpfnaa
open Go.RowKit
set_option maxRecDepth 100000

theorem law_big8 (ad : Option Addr) (n cap : Nat) (w : World) :
    Calls Try.prog 11 #[.slice ad n cap] w fun e w' => e = .returned (.bool (decide ((1048576 : Int) < (n : Int)))) ∧ w' = w := by
  go_enter Try.func11, Try.ntmps11
  go_wp2
  go_ret
  exact ⟨rfl, rfl⟩
theorem pb_bits (l : List Int) (i j q : Nat) (hq : q < 4) : bitsAt (pb l i j) q = dg l i j q := by
  have h0 := dg_bd l i j 0; have h1 := dg_bd l i j 1; have h2 := dg_bd l i j 2; have h3 := dg_bd l i j 3
  rcases (show q = 0 ∨ q = 1 ∨ q = 2 ∨ q = 3 by omega) with rfl | rfl | rfl | rfl <;> simp only [bitsAt, pb] <;> simp <;> omega
theorem dz_stB (l : List Int) (hl : l.length ≤ 401) (i : Nat) : dz (stB l) i = if i < l.length then stOf l (i : Int) else 0 := by
  unfold stB
  rw [if_pos hl]
  unfold dz
  by_cases h : i / 4 < (l.length + 3) / 4
  · rw [pbs_at _ _ _ _ h, pb_bits _ _ _ _ (by omega)]
    unfold dg
    rw [show 4 * (i / 4) + i % 4 = i by omega]
  · rw [List.getD_eq_getElem?_getD, List.getElem?_eq_none (by rw [pbs_length]; omega), if_neg (by omega)]
    simp [bitsAt]
theorem stB_length (l : List Int) (hl : l.length ≤ 401) : (stB l).length = (l.length + 3) / 4 := by unfold stB; rw [if_pos hl, pbs_length]
theorem stB_ok (l : List Int) (hl : l.length ≤ 401) : rdOk (stB l) (l.length : Int) = true := by
  refine rdOk_yes hl (stB_length l hl) fun i _ => ?_
  unfold okAt
  rw [dz_stB l hl i]
  have := stOf_bd l (i : Int)
  split
  · rename_i h
    refine ⟨by omega, fun h2 => ⟨fun e => ?_, h⟩⟩
    subst e
    rw [stOf_zero] at h2; omega
  · exact ⟨by omega, fun h2 => by omega⟩
theorem stB_back (l : List Int) (hl : l.length ≤ 401) : rdL (stB l) (l.length : Int) = (List.range l.length).map (fun (i : Nat) => stOf l (i : Int)) := by
  rw [rdL_yes (stB_ok l hl)]
  apply List.map_congr_left
  intro i hi
  rw [dz_stB l hl i, if_pos (List.mem_range.1 hi)]
theorem back_of (l : List Int) (hl : l.length ≤ 401) (i : Nat) (hi : i < l.length) : stOf (rdL (stB l) (l.length : Int)) (i : Int) = stOf l (i : Int) := by
  rw [stB_back l hl]
  have hb := stOf_bd l (i : Int)
  have e : ((List.range l.length).map (fun (i : Nat) => stOf l (i : Int))).getD i 0 = stOf l (i : Int) := by simp [hi]
  by_cases h0 : i = 0
  · subst h0; rw [stOf_zero, stOf_zero]
  · rw [show stOf ((List.range l.length).map (fun (i : Nat) => stOf l (i : Int))) (i : Int) = ((List.range l.length).map (fun (i : Nat) => stOf l (i : Int))).getD i 0 by
      unfold stOf
      rw [Int.toNat_natCast, if_pos]
      refine ⟨by omega, by omega, by simp; omega, ?_⟩
      have e2 := e
      unfold stOf at e2 hb
      rw [e2]; exact hb]
    exact e
/-- What the law holds each place against. -/
def wasL (l : List Int) (x s : Int) (i : Nat) : Int := if (i : Int) = x then s else stOf l (i : Int)
theorem setS_of (l : List Int) (x s : Int) (h : setOk l x s = true) (i : Nat) (hi : i < (setS l x s).length) : stOf (setS l x s) (i : Int) = wasL l x s i := by
  have k := setOk_of h
  rw [setS_yes h, List.length_set, grow_length] at hi
  rw [setS_yes h]
  obtain ⟨X, rfl⟩ : ∃ X : Nat, x = X := ⟨x.toNat, by omega⟩
  rw [Int.toNat_natCast] at *
  have hl : ((grow l (X + 1)).set X s).length = max l.length (X + 1) := by rw [List.length_set, grow_length]
  have hg : ((grow l (X + 1)).set X s).getD i 0 = if i = X then s else l.getD i 0 := by rw [set_at _ _ _ _ (by rw [grow_length]; omega), grow_at]
  by_cases e : i = X
  · subst e
    have hw : wasL l (i : Int) s i = s := by unfold wasL; rw [if_pos rfl]
    rw [hw]
    unfold stOf
    rw [hl, Int.toNat_natCast, hg, if_pos rfl, if_pos ⟨by omega, by omega, by omega, by omega, by omega⟩]
  · have hw : wasL l (X : Int) s i = stOf l (i : Int) := by unfold wasL; rw [if_neg (by omega)]
    rw [hw]
    unfold stOf
    rw [hl, Int.toNat_natCast, hg, if_neg e]
    by_cases h1 : i < l.length
    · by_cases h2 : 1 ≤ (i : Int) ∧ (i : Int) ≤ 400 ∧ (i : Int) < (l.length : Int) ∧ 0 ≤ l.getD i 0 ∧ l.getD i 0 ≤ 2
      · rw [if_pos h2, if_pos ⟨h2.1, h2.2.1, by omega, h2.2.2.2⟩]
      · rw [if_neg h2, if_neg (fun q => h2 ⟨q.1, q.2.1, by omega, q.2.2.2⟩)]
    · have h0 : l.getD i 0 = 0 := by rw [List.getD_eq_getElem?_getD, List.getElem?_eq_none (by omega)]; rfl
      rw [h0]; split <;> (try split) <;> rfl
theorem setS_le (l : List Int) (x s : Int) (h : setOk l x s = true) : (setS l x s).length ≤ 401 ∧ x < ((setS l x s).length : Int) := by
  have k := setOk_of h
  rw [setS_yes h, List.length_set, grow_length]
  omega
theorem settle_at (l : List Int) (i : Nat) (h : i ≠ 0) : ((setlAt l i == 0) = false) ∧ (setlAt l i == 1) = (stOf l (i : Int) == 1) := by
  rw [setlAt_pos l i h]
  unfold setl
  by_cases e : stOf l (i : Int) = 1
  · rw [if_pos e, e]; exact ⟨rfl, rfl⟩
  · rw [if_neg e]
    exact ⟨rfl, by have : (stOf l (i : Int) == 1) = false := by simpa using e
                   rw [this]; rfl⟩
end Go.Proofs.Ytioefplkadpfnaa
