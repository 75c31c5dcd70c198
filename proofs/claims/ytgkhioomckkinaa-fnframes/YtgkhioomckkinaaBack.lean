/- Plain: what FrameAt answers over a frame behind other bytes, over one that is cut, over one with one byte changed. -/
import Derived.Test.YtgkhioomckkinaaHurt
namespace Go.Proofs.Ytgkhioomckkinaa
open Go.RowKit

theorem getD_right (A B : List Int) (i : Nat) : (A ++ B).getD (A.length + i) 0 = B.getD i 0 := by
  rw [List.getD_eq_getElem?_getD, List.getElem?_append_right (by omega), Nat.add_sub_cancel_left, ← List.getD_eq_getElem?_getD]
theorem getD_left (A B : List Int) (i : Nat) (h : i < A.length) : (A ++ B).getD i 0 = A.getD i 0 := by
  rw [List.getD_eq_getElem?_getD, List.getElem?_append_left h, ← List.getD_eq_getElem?_getD]
theorem getD_take (l : List Int) (k i : Nat) (h : i < k) : (l.take k).getD i 0 = l.getD i 0 := by
  rw [List.getD_eq_getElem?_getD, List.getElem?_take, if_pos h, ← List.getD_eq_getElem?_getD]
theorem getD_set_ne (l : List Int) (i j : Nat) (c : Int) (h : i ≠ j) : (l.set i c).getD j 0 = l.getD j 0 := by
  rw [List.getD_eq_getElem?_getD, List.getElem?_set_ne h, ← List.getD_eq_getElem?_getD]
theorem getD_set_eq (l : List Int) (i : Nat) (c : Int) (h : i < l.length) : (l.set i c).getD i 0 = c := by
  rw [List.getD_eq_getElem?_getD, List.getElem?_set_self h, Option.getD_some]

/-- A frame's parts. -/
structure Parts (kind : Int) (body : List Int) (F H : List Int) (X m : Nat) : Prop where
  hm : body.length = m
  m1000 : m ≤ 1000
  k1 : 1 ≤ kind
  k255 : kind ≤ 255
  hH : H = [kind] ++ dig m 2 ++ body
  hF : F = H ++ dig X 4
  crc : crcOf H = X
  x32 : X ≤ 4294967295
  bdb : ∀ i, 0 ≤ body.getD i 0 ∧ body.getD i 0 ≤ 255

theorem parts_of (kind : Int) (body : List Int) (h1 : 1 ≤ kind) (h255 : kind ≤ 255) (hm : body.length ≤ 1000) (hb : ∀ i, 0 ≤ body.getD i 0 ∧ body.getD i 0 ≤ 255) :
    ∃ H X, Parts kind body (frameL kind body) H X body.length := by
  have hd2 : putL body.length 2 = dig body.length 2 := by
    rw [show (2 : Int) = ((2 : Nat) : Int) from rfl]
    exact putL_yes _ 2 (by omega) (by omega) (sh_le_pow _ 2 (by omega))
  have hc := crcOf_small (headL kind body) (by rw [headL_length kind body hm]; omega) (headL_bd kind body (by omega) h255 hb)
  obtain ⟨X, hX⟩ := Int.eq_ofNat_of_zero_le hc.1
  have hd4 : putL (crcOf (headL kind body)) 4 = dig X 4 := by
    rw [hX, show (4 : Int) = ((4 : Nat) : Int) from rfl]
    exact putL_yes _ 4 (by omega) (by omega) (sh_le_pow _ 4 (by omega))
  refine ⟨headL kind body, X, rfl, hm, h1, h255, ?_, ?_, hX, by omega, hb⟩
  · unfold headL; rw [hd2]
  · unfold frameL; rw [hd4]

theorem Parts.lenH {kind : Int} {body F H : List Int} {X m : Nat} (p : Parts kind body F H X m) : H.length = 3 + m := by rw [p.hH, List.length_append, List.length_append, dig_length, p.hm]; simp
theorem Parts.lenF {kind : Int} {body F H : List Int} {X m : Nat} (p : Parts kind body F H X m) : F.length = m + 7 := by rw [p.hF, List.length_append, p.lenH, dig_length]; omega
theorem Parts.at0 {kind : Int} {body F H : List Int} {X m : Nat} (p : Parts kind body F H X m) : F.getD 0 0 = kind := by rw [p.hF, p.hH]; simp
theorem Parts.at1 {kind : Int} {body F H : List Int} {X m : Nat} (p : Parts kind body F H X m) (j : Nat) (hj : j < 2) : F.getD (1 + j) 0 = (dig m 2).getD j 0 := by
  have e : F = [kind] ++ (dig m 2 ++ (body ++ dig X 4)) := by rw [p.hF, p.hH]; simp
  have l1 : ([kind] : List Int).length = 1 := rfl
  rw [e, ← l1, getD_right, getD_left _ _ _ (by rw [dig_length]; exact hj)]
theorem Parts.at4 {kind : Int} {body F H : List Int} {X m : Nat} (p : Parts kind body F H X m) (j : Nat) : F.getD (3 + m + j) 0 = (dig X 4).getD j 0 := by
  rw [p.hF, ← p.lenH, getD_right]
theorem Parts.bdH {kind : Int} {body F H : List Int} {X m : Nat} (p : Parts kind body F H X m) : ∀ i, 0 ≤ H.getD i 0 ∧ H.getD i 0 ≤ 255 := by
  rw [p.hH]
  exact bd_append (bd_append (bd_one kind (by have := p.k1; omega) p.k255) (dig_bd _ _)) p.bdb
theorem Parts.bdF {kind : Int} {body F H : List Int} {X m : Nat} (p : Parts kind body F H X m) : ∀ i, 0 ≤ F.getD i 0 ∧ F.getD i 0 ≤ 255 := by
  rw [p.hF]; exact bd_append p.bdH (dig_bd _ _)
theorem Parts.sh2 {kind : Int} {body F H : List Int} {X m : Nat} (p : Parts kind body F H X m) : sh m 2 = 0 := sh_le_pow m 2 (by have := p.m1000; omega)
theorem Parts.sh4 {kind : Int} {body F H : List Int} {X m : Nat} (p : Parts kind body F H X m) : sh X 4 = 0 := sh_le_pow X 4 (by have := p.x32; omega)

/-- Behind other bytes the frame comes back. -/
theorem Parts.well {kind : Int} {body F H : List Int} {X m : Nat} (p : Parts kind body F H X m) (Q : List Int) (hq : Q.length ≤ 5) : faOf (Q ++ F) Q.length = ⟨kind, body, (Q.length : Int) + 7 + m, 0⟩ := by
  have hm := p.m1000
  have hl : (Q ++ F).length = Q.length + (m + 7) := by rw [List.length_append, p.lenF]
  have e0 : (Q ++ F).getD Q.length 0 = kind := by have := getD_right Q F 0; rw [Nat.add_zero] at this; rw [this, p.at0]
  have eN : numOf (Q ++ F) ((Q.length : Int) + 1) 2 = m := by
    have := num_digs (Q ++ F) (Q.length + 1) m 2 (by omega) (by omega) p.sh2 (by omega) (by omega) (fun j hj => by rw [Nat.add_assoc, getD_right]; exact p.at1 j hj)
    rwa [show ((Q.length + 1 : Nat) : Int) = (Q.length : Int) + 1 by omega, show ((2 : Nat) : Int) = 2 from rfl] at this
  have eS : numOf (Q ++ F) ((Q.length : Int) + 3 + m) 4 = X := by
    have := num_digs (Q ++ F) (Q.length + (3 + m)) X 4 (by omega) (by omega) p.sh4 (by have := p.x32; omega) (by omega) (fun j _ => by rw [Nat.add_assoc, getD_right]; exact p.at4 j)
    rwa [show ((Q.length + (3 + m) : Nat) : Int) = (Q.length : Int) + 3 + m by omega, show ((4 : Nat) : Int) = 4 from rfl] at this
  have sH : sub (Q ++ F) Q.length (3 + m) = H := by
    unfold sub; rw [List.drop_left, p.hF, List.take_append_of_le_length (by rw [p.lenH]; exact Nat.le_refl _), List.take_of_length_le (by rw [p.lenH]; exact Nat.le_refl _)]
  have sB : sub (Q ++ F) (Q.length + 3) m = body := by
    have e : Q ++ F = (Q ++ ([kind] ++ dig m 2)) ++ (body ++ dig X 4) := by rw [p.hF, p.hH]; simp
    have l : (Q ++ ([kind] ++ dig m 2)).length = Q.length + 3 := by simp [dig_length]
    unfold sub
    rw [e, ← l, List.drop_left, List.take_append_of_le_length (by rw [p.hm]; exact Nat.le_refl _), List.take_of_length_le (by rw [p.hm]; exact Nat.le_refl _)]
  have h := fa_well (Q ++ F) Q.length m (by omega) (by omega) eN (by rw [e0]; have := p.k1; omega) (by omega) (by rw [eS, sH, p.crc])
  rw [h, e0, sB]

/-- Cut it is none. -/
theorem Parts.cut {kind : Int} {body F H : List Int} {X m : Nat} (p : Parts kind body F H X m) (Q : List Int) (hq : Q.length ≤ 5) (l : Nat) (h1 : Q.length + m ≤ l) (h2 : l < Q.length + m + 7) : (faOf ((Q ++ F).take l) Q.length).c = 1 := by
  have hm := p.m1000
  have hl : ((Q ++ F).take l).length = l := by rw [List.length_take, List.length_append, p.lenF]; omega
  by_cases h3 : l < Q.length + 3
  · rw [fa_no _ _ (by omega)]
  · have e0 : ((Q ++ F).take l).getD Q.length 0 = kind := by
      rw [getD_take _ _ _ (by omega)]
      have := getD_right Q F 0; rw [Nat.add_zero] at this; rw [this, p.at0]
    have eN : numOf ((Q ++ F).take l) ((Q.length : Int) + 1) 2 = m := by
      have := num_digs ((Q ++ F).take l) (Q.length + 1) m 2 (by omega) (by omega) p.sh2 (by omega) (by omega) (fun j hj => by rw [getD_take _ _ _ (by omega), Nat.add_assoc, getD_right]; exact p.at1 j hj)
      rwa [show ((Q.length + 1 : Nat) : Int) = (Q.length : Int) + 1 by omega, show ((2 : Nat) : Int) = 2 from rfl] at this
    rw [fa_short _ Q.length m (by omega) (by omega) eN (by rw [e0]; have := p.k1; omega) (by omega)]

/-- With one byte of kind, body or sum changed it is none. -/
theorem Parts.hurt {kind : Int} {body F H : List Int} {X m : Nat} (p : Parts kind body F H X m) (i : Nat) (hi : i < m + 7) (h1 : i ≠ 1) (h2 : i ≠ 2) (c : Int) (hc0 : 0 ≤ c) (hc : c ≤ 255) (hne : c ≠ F.getD i 0) : (faOf (F.set i c) 0).c ≠ 0 := by
  have hm := p.m1000
  have hl : (F.set i c).length = m + 7 := by rw [List.length_set, p.lenF]
  have hbd : ∀ j, 0 ≤ (F.set i c).getD j 0 ∧ (F.set i c).getD j 0 ≤ 255 := by
    intro j
    by_cases e : i = j
    · subst e; rw [getD_set_eq _ _ _ (by rw [p.lenF]; exact hi)]; exact ⟨hc0, hc⟩
    · rw [getD_set_ne _ _ _ _ e]; exact p.bdF j
  have eN : numOf (F.set i c) (((0 : Nat) : Int) + 1) 2 = m := by
    have := num_digs (F.set i c) 1 m 2 (by omega) (by omega) p.sh2 (by omega) (by omega) (fun j hj => by rw [getD_set_ne _ _ _ _ (by omega)]; exact p.at1 j hj)
    simpa using this
  by_cases hz : (F.set i c).getD 0 0 = 0
  · have h := fa_bad (F.set i c) 0 m (by omega) (by omega) eN (.inl hz)
    rw [show faOf (F.set i c) 0 = _ from h]; decide
  have hs : numOf (F.set i c) (((0 : Nat) : Int) + 3 + m) 4 ≠ crcOf (sub (F.set i c) 0 (3 + m)) := by
    have hcast : (((0 : Nat) : Int) + 3 + m) = ((3 + m : Nat) : Int) := by omega
    rw [hcast]
    by_cases hin : i < 3 + m
    · have eS : numOf (F.set i c) ((3 + m : Nat) : Int) 4 = X :=
        num_digs (F.set i c) (3 + m) X 4 (by omega) (by omega) p.sh4 (by have := p.x32; omega) (by omega) (fun j _ => by rw [getD_set_ne _ _ _ _ (by omega)]; exact p.at4 j)
      have sH : sub (F.set i c) 0 (3 + m) = H.set i c := by
        unfold sub
        rw [List.drop_zero, p.hF, List.set_append_left _ _ (by rw [p.lenH]; exact hin), List.take_append_of_le_length (by rw [List.length_set, p.lenH]; exact Nat.le_refl _), List.take_of_length_le (by rw [List.length_set, p.lenH]; exact Nat.le_refl _)]
      rw [eS, sH, ← p.crc]
      exact fun e => crc_set H p.bdH (by rw [p.lenH]; omega) i (by rw [p.lenH]; exact hin) c hc0 hc (by rw [← getD_left H (dig X 4) i (by rw [p.lenH]; exact hin), ← p.hF]; exact hne) e.symm
    · have sH : sub (F.set i c) 0 (3 + m) = H := by
        unfold sub
        rw [List.drop_zero, List.take_set_of_le (by omega), p.hF, List.take_append_of_le_length (by rw [p.lenH]; exact Nat.le_refl _), List.take_of_length_le (by rw [p.lenH]; exact Nat.le_refl _)]
      rw [sH, p.crc]
      refine num_other (F.set i c) hbd (3 + m) X 4 (by omega) (by omega) p.sh4 (by omega) (i - (3 + m)) (by omega) ?_
      rw [show 3 + m + (i - (3 + m)) = i by omega, getD_set_eq _ _ _ (by rw [p.lenF]; exact hi), ← p.at4, show 3 + m + (i - (3 + m)) = i by omega]
      exact hne
  have h := fa_sum (F.set i c) 0 m (by omega) (by omega) eN (by omega) (by omega) hs
  rw [show faOf (F.set i c) 0 = _ from h]; decide
end Go.Proofs.Ytgkhioomckkinaa
