/- What FnDisks says, of plain disks: a write is read; behind a crash each sector has what was safe or what a kept write says; a sync ahead loses nothing. No conditions. -/
import Derived.Test.YtnnnehjlegjejaaDoorFz
namespace Go.Proofs.YtnnnehjlegjejaaDoor
open Go.RowKit

/-- What a sector becomes by the first k of the kept writes. -/
def keptW (ws : List (Int × List Int)) (ks : List Bool) (i : Int) : Nat → List Int → List Int
  | 0, z => z
  | k + 1, z => if ks.getD k false = true ∧ (ws.getD k w0).1 = i then (ws.getD k w0).2 else keptW ws ks i k z

theorem doneS_all : ∀ (ws : List (Int × List Int)) (ks : List Bool) (all : Bool) (ss : List (List Int)) (i : Nat), i < ss.length → (∀ j, j < ws.length → 0 ≤ (ws.getD j w0).1 ∧ (ws.getD j w0).1 < ss.length) →
    (doneS ss ws ks all).getD i [] = (List.range ws.length).foldl (fun z k => if (all || ks.getD k false) = true ∧ (ws.getD k w0).1 = i then (ws.getD k w0).2 else z) (ss.getD i [])
  | [], ks, all, ss, i, hi, hw => by simp [doneS]
  | p :: ws, ks, all, ss, i, hi, hw => by
    have hp := hw 0 (by simp)
    simp only [List.getD_cons_zero] at hp
    have hw' : ∀ (s2 : List (List Int)), s2.length = ss.length → ∀ j, j < ws.length → 0 ≤ (ws.getD j w0).1 ∧ (ws.getD j w0).1 < s2.length := fun s2 e j hj => by have := hw (j + 1) (by simpa using hj); rw [e]; simpa using this
    rw [doneS, List.length_cons, List.range_succ_eq_map, List.foldl_cons, List.foldl_map]
    have hk : ∀ k, ks.tail.getD k false = ks.getD (k + 1) false := fun k => by cases ks <;> simp
    have h0 : ks.headD false = ks.getD 0 false := by cases ks <;> simp
    by_cases hc : (all || ks.headD false) = true
    · rw [if_pos hc, doneS_all ws ks.tail all (ss.set p.1.toNat p.2) i (by simpa using hi) (hw' _ (by simp))]
      rw [h0] at hc
      rw [getD_set' ss p.1.toNat i p.2 [] (by omega)]
      simp only [List.getD_cons_zero, hc, true_and, List.getD_cons_succ, hk]
      by_cases he : p.1 = (i : Int)
      · rw [if_pos he, if_pos (by omega)]
      · rw [if_neg he, if_neg (by omega)]
    · rw [if_neg hc, doneS_all ws ks.tail all ss i hi (hw' _ rfl)]
      rw [h0] at hc
      simp only [List.getD_cons_zero, hc, List.getD_cons_succ, hk]
      rfl

theorem fold_kept (ws : List (Int × List Int)) (ks : List Bool) (i : Int) (z : List Int) : ∀ n, (List.range n).foldl (fun z k => if ((false || ks.getD k false) = true ∧ (ws.getD k w0).1 = i) then (ws.getD k w0).2 else z) z = keptW ws ks i n z
  | 0 => rfl
  | n + 1 => by
    rw [List.range_succ, List.foldl_append, fold_kept ws ks i z n]
    simp only [List.foldl_cons, List.foldl_nil, keptW, Bool.false_or]
theorem fold_last (ws : List (Int × List Int)) (i : Int) (z : List Int) : ∀ n, n ≤ ws.length → (List.range n).foldl (fun z k => if ((true || ([] : List Bool).getD k false) = true ∧ (ws.getD k w0).1 = i) then (ws.getD k w0).2 else z) z = lastW (ws.take n) i z
  | 0, _ => by simp [lastW]
  | n + 1, h => by
    rw [List.range_succ, List.foldl_append, fold_last ws i z n (by omega), lastW_step ws i z n (by omega)]
    simp only [List.foldl_cons, List.foldl_nil, Bool.true_or, true_and]
/-- Beyond what is kept nothing turns. -/
theorem keptW_min (ws : List (Int × List Int)) (ks : List Bool) (i : Int) (z : List Int) : ∀ n m, ks.length ≤ m → m ≤ n → keptW ws ks i n z = keptW ws ks i m z
  | 0, m, _, h => by rw [show m = 0 by omega]
  | n + 1, m, hk, h => by
    by_cases e : m = n + 1
    · rw [e]
    · rw [keptW, if_neg (fun hh => by
        have h1 := hh.1
        rw [List.getD_eq_getElem?_getD, List.getElem?_eq_none (by omega)] at h1
        exact absurd h1 (by simp)), keptW_min ws ks i z n m hk (by omega)]

/-- All that a written disk has. -/
structure Wrote (S : List (List Int)) (W : List (Int × List Int)) (at' : Int) (z : List Int) (RS : List (List Int)) (RW : List (Int × List Int)) (RF : Int) (RD : Bool) : Prop where
  ok : okD ⟨RS, RW, RF, RD⟩ = true
  rs : RS = S
  rw : RW = W ++ [(at', z)]
  lo : 0 ≤ at'
  hi : at' < S.length
  dn : RD = false

theorem wrote {S : List (List Int)} {W : List (Int × List Int)} {F : Int} {D : Bool} {at' : Int} {z : List Int} {RS : List (List Int)} {RW : List (Int × List Int)} {RF : Int} {RD : Bool} (h : writeD ⟨S, W, F, D⟩ at' z = (⟨RS, RW, RF, RD⟩, 0)) : Wrote S W at' z RS RW RF RD := by
  unfold writeD at h
  by_cases hc : okD ⟨S, W, F, D⟩ = true ∧ 0 ≤ at' ∧ at' < S.length ∧ z.length = 64
  · rw [if_pos hc] at h
    simp only at h
    by_cases hw : 600 ≤ W.length
    · rw [if_pos hw] at h; simp at h
    · rw [if_neg hw] at h
      by_cases hd : (callD ⟨S, W, F, D⟩).2 = true
      · rw [if_pos hd] at h
        have o := okD_of hc.1
        have key : (callD ⟨S, W, F, D⟩).1.S = S ∧ (callD ⟨S, W, F, D⟩).1.W = W ∧ -1 ≤ (callD ⟨S, W, F, D⟩).1.F ∧ (callD ⟨S, W, F, D⟩).1.D = false := by
          have hF := o.f
          simp only at hF
          unfold callD at hd ⊢
          cases D with
          | true => simp at hd
          | false =>
            simp only [Bool.false_eq_true, if_false] at hd ⊢
            by_cases h0 : F = 0
            · rw [if_pos h0] at hd; simp at hd
            · rw [if_neg h0]
              by_cases h1 : 0 < F
              · rw [if_pos h1]; exact ⟨rfl, rfl, by simp only; omega, rfl⟩
              · rw [if_neg h1]; exact ⟨rfl, rfl, hF, rfl⟩
        simp only [Prod.mk.injEq, Dk.mk.injEq, and_true] at h
        obtain ⟨rfl, rfl, rfl, rfl⟩ := h
        rw [key.1, key.2.1, key.2.2.2]
        refine ⟨okD_mk ⟨o.s0, o.s1, by simp only [List.length_append, List.length_cons, List.length_nil]; omega, key.2.2.1, o.s, fun i hi => ?_⟩, rfl, rfl, hc.2.1, hc.2.2.1, rfl⟩
        simp only at hi ⊢
        rw [getD_app]
        split
        · rename_i hlt; exact o.w i hlt
        · rename_i hlt
          simp only [List.length_append, List.length_cons, List.length_nil] at hi
          rw [show i - W.length = 0 by omega]
          exact ⟨hc.2.1, hc.2.2.1, hc.2.2.2⟩
      · rw [if_neg hd] at h; simp at h
  · rw [if_neg hc] at h; simp at h

theorem wrote_F {S : List (List Int)} {W : List (Int × List Int)} {F : Int} {D : Bool} {at' : Int} {z : List Int} {RS : List (List Int)} {RW : List (Int × List Int)} {RF : Int} {RD : Bool} (h : writeD ⟨S, W, F, D⟩ at' z = (⟨RS, RW, RF, RD⟩, 0)) (hF : F ≤ 1000000) : RF ≤ 1000000 := by
  unfold writeD at h
  have key : (callD ⟨S, W, F, D⟩).1.F ≤ 1000000 := by
    unfold callD
    cases D with
    | true => simpa using hF
    | false =>
      simp only [Bool.false_eq_true, if_false]
      by_cases h0 : F = 0
      · rw [if_pos h0]; simpa using hF
      · rw [if_neg h0]
        by_cases h1 : 0 < F
        · rw [if_pos h1]; simp only; omega
        · rw [if_neg h1]; simpa using hF
  by_cases hc : okD ⟨S, W, F, D⟩ = true ∧ 0 ≤ at' ∧ at' < S.length ∧ z.length = 64
  · rw [if_pos hc] at h
    simp only at h
    by_cases hw : 600 ≤ W.length
    · rw [if_pos hw] at h; simp at h
    · rw [if_neg hw] at h
      by_cases hd : (callD ⟨S, W, F, D⟩).2 = true
      · rw [if_pos hd] at h
        simp only [Prod.mk.injEq, Dk.mk.injEq, and_true] at h
        rw [← h.2.2.1]; exact key
      · rw [if_neg hd] at h; simp at h
  · rw [if_neg hc] at h; simp at h

theorem Wrote.read {S : List (List Int)} {W : List (Int × List Int)} {at' : Int} {z : List Int} {RS : List (List Int)} {RW : List (Int × List Int)} {RF : Int} {RD : Bool} (h : Wrote S W at' z RS RW RF RD) : readR ⟨RS, RW, RF, RD⟩ at' = (z, true) := by
  unfold readR
  rw [if_pos ⟨h.ok, h.lo, by rw [h.rs]; exact h.hi⟩, h.rw]
  simp only [lastW_snoc]
theorem Wrote.crash {S : List (List Int)} {W : List (Int × List Int)} {at' : Int} {z : List Int} {RS : List (List Int)} {RW : List (Int × List Int)} {RF : Int} {RD : Bool} (h : Wrote S W at' z RS RW RF RD) (ks : List Bool) : crashD ⟨RS, RW, RF, RD⟩ ks = ⟨doneS S RW ks false, [], -1, false⟩ ∧ okD ⟨doneS S RW ks false, [], -1, false⟩ = true ∧ (doneS S RW ks false).length = S.length ∧
    ∀ i : Nat, i < S.length → (doneS S RW ks false).getD i [] = keptW RW ks i RW.length (S.getD i []) := by
  have o := okD_of h.ok
  obtain ⟨l1, l2⟩ := doneS_64 RW RS ks false o.s (fun j hj => (o.w j hj).2.2)
  have hrs := h.rs
  subst hrs
  refine ⟨by unfold crashD; rw [if_pos h.ok], okD_mk ⟨by simp only; rw [l1]; exact o.s0, by simp only; rw [l1]; exact o.s1, by simp, by simp, fun j hj => l2 j (by simp only at hj; omega), fun j hj => by simp at hj⟩, l1, fun i hi => ?_⟩
  rw [doneS_all RW ks false RS i hi (fun j hj => ⟨(o.w j hj).1, (o.w j hj).2.1⟩), fold_kept]
/-- With a sync ahead. -/
theorem Wrote.sync {S : List (List Int)} {W : List (Int × List Int)} {at' : Int} {z : List Int} {RS : List (List Int)} {RW : List (Int × List Int)} {RF : Int} {RD : Bool} (h : Wrote S W at' z RS RW RF RD) {TS : List (List Int)} {TW : List (Int × List Int)} {TF : Int} {TD : Bool} {TC : Int} (hs : syncD ⟨RS, RW, RF, RD⟩ = (⟨TS, TW, TF, TD⟩, TC)) :
    (TC ≠ 0 ∧ RF = 0) ∨ (TC = 0 ∧ crashD ⟨TS, TW, TF, TD⟩ [] = ⟨TS, [], -1, false⟩ ∧ TF ≤ max RF 0 ∧ readR ⟨TS, [], -1, false⟩ at' = (z, true)) := by
  have o := okD_of h.ok
  have hF := o.f
  have hD := h.dn
  subst hD
  have hrs := h.rs
  subst hrs
  simp only at hF
  unfold syncD at hs
  rw [if_pos h.ok] at hs
  by_cases h0 : RF = 0
  · left
    have hc : callD ⟨RS, RW, RF, false⟩ = (⟨RS, RW, RF, true⟩, false) := by unfold callD; simp [h0]
    rw [hc] at hs
    simp only [Bool.false_eq_true, if_false, Prod.mk.injEq] at hs
    exact ⟨by rw [← hs.2]; simp, h0⟩
  · right
    have hc : ∃ F', F' ≤ max RF 0 ∧ -1 ≤ F' ∧ callD ⟨RS, RW, RF, false⟩ = (⟨RS, RW, F', false⟩, true) := by
      unfold callD
      by_cases h1 : 0 < RF
      · exact ⟨RF - 1, by omega, by omega, by simp [h0, h1]⟩
      · exact ⟨RF, by omega, hF, by simp [h0, h1]⟩
    obtain ⟨F', hf1, hf2, hc⟩ := hc
    rw [hc] at hs
    simp only [if_true, Prod.mk.injEq, Dk.mk.injEq] at hs
    obtain ⟨⟨rfl, rfl, rfl, rfl⟩, rfl⟩ := hs
    obtain ⟨l1, l2⟩ := doneS_64 RW RS [] true o.s (fun j hj => (o.w j hj).2.2)
    have ok : ∀ G, -1 ≤ G → okD ⟨doneS RS RW [] true, [], G, false⟩ = true := fun G hG => okD_mk ⟨by simp only; rw [l1]; exact o.s0, by simp only; rw [l1]; exact o.s1, by simp, hG, fun j hj => l2 j (by simp only at hj; omega), fun j hj => by simp at hj⟩
    refine ⟨rfl, by unfold crashD; rw [if_pos (ok _ hf2)]; rfl, hf1, ?_⟩
    have hi := h.hi
    have hlo := h.lo
    unfold readR
    rw [if_pos ⟨ok _ (by omega), h.lo, by simp only; rw [l1]; exact h.hi⟩]
    simp only [lastW, List.foldl_nil, Prod.mk.injEq, and_true]
    obtain ⟨i, rfl⟩ := Int.eq_ofNat_of_zero_le hlo
    rw [show ((i : Int)).toNat = i by omega, doneS_all RW [] true RS i (by omega) (fun j hj => ⟨(o.w j hj).1, (o.w j hj).2.1⟩), fold_last RW i _ _ (Nat.le_refl _), lastW_all, h.rw, lastW_snoc]
end Go.Proofs.YtnnnehjlegjejaaDoor
