/- Tuples read of bytes, plain. No program, no conditions. -/
import Derived.Test.YtebhipicfgnajaaMgb
import Derived.Test.YtebhipicfgnajaaTpb
namespace Go.Proofs.Ytebhipicfgnajaa
open Go.RowKit
set_option maxRecDepth 100000

theorem same_zero {y : Nat} (h : Same 0 y) : y = 0 := by
  rcases h with ⟨h1, _⟩ | ⟨_, h2⟩
  · exact absurd h1 (by decide)
  · exact h2
theorem same_top {x y : Nat} (h : Same x y) (hx : x ≠ 9223372036854775808) : y ≠ 9223372036854775808 := by
  rcases h with ⟨_, h2⟩ | ⟨_, rfl⟩
  · intro e; subst e; exact absurd h2 (by decide)
  · exact hx
theorem back_ne {x : Nat} (hx : x < 18446744073709551616) (h : frank (back x) = x) : back x ≠ 9223372036854775808 := by
  intro e
  rw [e] at h
  have h4 : frank 9223372036854775808 = 9223372036854775808 := by decide
  rw [h4] at h
  subst h
  exact absurd e (by decide)

/-- What is read as a key is one, and has just these bytes. -/
theorem readK_ok {zs : List Int} {RK RN : Int} {RF : Nat} {RZ : List Int} (hR : readR unfK zs = (RK, RN, RF, RZ, true)) (hz : ∀ i, 0 ≤ zs.getD i 0 ∧ zs.getD i 0 ≤ 255) {y : Nat} (hs : Same RF y) :
    okK RK RN y RZ.length = true ∧ keyB RK RN y RZ.length RZ = zs ∧ (-9223372036854775808 ≤ RN ∧ RN ≤ 9223372036854775807) := by
  cases zs with
  | nil => simp [readR] at hR
  | cons k ts =>
    have hbt : ∀ i, 0 ≤ ts.getD i 0 ∧ ts.getD i 0 ≤ 255 := fun i => hz (i + 1)
    simp only [readR] at hR
    by_cases k3 : k = 3
    · subst k3
      rw [if_pos rfl] at hR
      by_cases h40 : ts.length ≤ 40
      · rw [if_pos h40] at hR
        simp only [Prod.mk.injEq] at hR
        obtain ⟨rfl, rfl, rfl, rfl, _⟩ := hR
        obtain rfl := same_zero hs
        exact ⟨by rw [okK, show okI 3 0 0 ts.length = true from decide_eq_true (by omega), decide_eq_true (by omega)]; rfl, keyB_text _ _ h40, by omega⟩
      · rw [if_neg h40] at hR; simp at hR
    · rw [if_neg k3] at hR
      by_cases h8 : ts.length = 8
      · rw [if_pos h8] at hR
        have hx : low ts < 18446744073709551616 := low_lt ts 0 (by omega)
        by_cases k1 : k = 1
        · subst k1
          rw [if_pos rfl] at hR
          simp only [Prod.mk.injEq] at hR
          obtain ⟨rfl, rfl, rfl, rfl, _⟩ := hR
          obtain rfl := same_zero hs
          have hxN : ((low ts : Int) - 9223372036854775808 + 9223372036854775808).toNat = low ts := by omega
          exact ⟨by rw [okK, show okI 1 ((low ts : Int) - 9223372036854775808) 0 ([] : List Int).length = true from decide_eq_true (by simp), decide_eq_true (by omega)]; rfl, by show keyB 1 _ 0 0 [] = _; rw [keyB_int, hxN, hi8_low h8 hbt], by omega⟩
        · rw [if_neg k1] at hR
          by_cases k2 : k = 2
          · subst k2
            rw [if_pos rfl] at hR
            cases hu : unfK (low ts) with
            | none => rw [hu] at hR; simp at hR
            | some y0 =>
              rw [hu] at hR
              simp only [Prod.mk.injEq] at hR
              obtain ⟨rfl, rfl, rfl, rfl, _⟩ := hR
              have hb : frank (back (low ts)) = low ts ∧ y0 = back (low ts) := by
                unfold unfK at hu
                split at hu
                · rename_i h; cases hu; exact ⟨h, rfl⟩
                · cases hu
              obtain ⟨hb, rfl⟩ := hb
              have hy := same_top hs (back_ne hx hb)
              exact ⟨by rw [okK, show okI 2 0 y ([] : List Int).length = true from decide_eq_true (by simp), decide_eq_true ⟨by omega, hy⟩]; rfl, by show keyB 2 0 y 0 [] = _; rw [keyB_float y hy, frank_sm hs, hb, hi8_low h8 hbt], by omega⟩
          · rw [if_neg k2] at hR; simp at hR
      · rw [if_neg h8] at hR; simp at hR

/-- What is read as a value is one, and has just these bytes. -/
theorem readV_ok {zs : List Int} {RK RN : Int} {RF : Nat} {RZ : List Int} (hR : readR unfV zs = (RK, RN, RF, RZ, true)) (hz : ∀ i, 0 ≤ zs.getD i 0 ∧ zs.getD i 0 ≤ 255) {y : Nat} (hs : Same RF y) :
    okI RK RN y RZ.length = true ∧ RK ≠ 0 ∧ valB RK RN y RZ.length RZ = zs ∧ (-9223372036854775808 ≤ RN ∧ RN ≤ 9223372036854775807) := by
  cases zs with
  | nil => simp [readR] at hR
  | cons k ts =>
    have hbt : ∀ i, 0 ≤ ts.getD i 0 ∧ ts.getD i 0 ≤ 255 := fun i => hz (i + 1)
    simp only [readR] at hR
    by_cases k3 : k = 3
    · subst k3
      rw [if_pos rfl] at hR
      by_cases h40 : ts.length ≤ 40
      · rw [if_pos h40] at hR
        simp only [Prod.mk.injEq] at hR
        obtain ⟨rfl, rfl, rfl, rfl, _⟩ := hR
        obtain rfl := same_zero hs
        exact ⟨decide_eq_true (by omega), by omega, valB_text _ _ h40, by omega⟩
      · rw [if_neg h40] at hR; simp at hR
    · rw [if_neg k3] at hR
      by_cases h8 : ts.length = 8
      · rw [if_pos h8] at hR
        have hx : low ts < 18446744073709551616 := low_lt ts 0 (by omega)
        by_cases k1 : k = 1
        · subst k1
          rw [if_pos rfl] at hR
          simp only [Prod.mk.injEq] at hR
          obtain ⟨rfl, rfl, rfl, rfl, _⟩ := hR
          obtain rfl := same_zero hs
          have hxN : ((low ts : Int) - 9223372036854775808 + 9223372036854775808).toNat = low ts := by omega
          exact ⟨decide_eq_true (by simp), by omega, by show valB 1 _ 0 0 [] = _; rw [valB_int, hxN, hi8_low h8 hbt], by omega⟩
        · rw [if_neg k1] at hR
          by_cases k2 : k = 2
          · subst k2
            rw [if_pos rfl] at hR
            cases hu : unfV (low ts) with
            | none => rw [hu] at hR; simp at hR
            | some y0 =>
              rw [hu] at hR
              simp only [Prod.mk.injEq] at hR
              obtain ⟨rfl, rfl, rfl, rfl, _⟩ := hR
              have hb : fbits (low ts) = low ts ∧ y0 = low ts := by
                unfold unfV at hu
                split at hu
                · rename_i h; cases hu; exact ⟨h, rfl⟩
                · cases hu
              obtain ⟨hb, rfl⟩ := hb
              exact ⟨decide_eq_true (by simp), by omega, by show valB 2 0 y 0 [] = _; rw [valB_float y, fbits_sm hs, hb, hi8_low h8 hbt], by omega⟩
          · rw [if_neg k2] at hR; simp at hR
      · rw [if_neg h8] at hR; simp at hR

/-- What is not read leaves nothing. -/
theorem readR_no {d : Nat → Option Nat} {zs : List Int} {RK RN : Int} {RF : Nat} {RZ : List Int} (hR : readR d zs = (RK, RN, RF, RZ, false)) : RK = 0 ∧ RN = 0 ∧ RF = 0 ∧ RZ = [] := by
  cases zs with
  | nil => simp only [readR, Prod.mk.injEq] at hR; exact ⟨hR.1.symm, hR.2.1.symm, hR.2.2.1.symm, hR.2.2.2.1.symm⟩
  | cons k ts =>
    simp only [readR] at hR
    split at hR
    · split at hR
      · simp at hR
      · simp only [Prod.mk.injEq] at hR; exact ⟨hR.1.symm, hR.2.1.symm, hR.2.2.1.symm, hR.2.2.2.1.symm⟩
    · split at hR
      · split at hR
        · simp at hR
        · split at hR
          · split at hR
            · simp at hR
            · simp only [Prod.mk.injEq] at hR; exact ⟨hR.1.symm, hR.2.1.symm, hR.2.2.1.symm, hR.2.2.2.1.symm⟩
          · simp only [Prod.mk.injEq] at hR; exact ⟨hR.1.symm, hR.2.1.symm, hR.2.2.1.symm, hR.2.2.2.1.symm⟩
      · simp only [Prod.mk.injEq] at hR; exact ⟨hR.1.symm, hR.2.1.symm, hR.2.2.1.symm, hR.2.2.2.1.symm⟩
theorem readR_len {d : Nat → Option Nat} {zs : List Int} {RK RN : Int} {RF : Nat} {RZ : List Int} (hR : readR d zs = (RK, RN, RF, RZ, true)) : 1 ≤ zs.length ∧ zs.length ≤ 41 := by
  cases zs with
  | nil => simp [readR] at hR
  | cons k ts =>
    simp only [readR] at hR
    simp only [List.length_cons]
    split at hR
    · split at hR
      · omega
      · simp at hR
    · split at hR
      · omega
      · simp at hR

/-- A tuple's parts, of its bytes. -/
def tkl (zs : List Int) : Nat := (zs.getD 8 0).toNat
def keyP (zs : List Int) : List Int := (zs.drop 9).take (tkl zs)
def valP (zs : List Int) : List Int := zs.drop (10 + tkl zs)
/-- The bytes are cut as a tuple's are. -/
def whole (zs : List Int) : Bool := decide (10 + tkl zs ≤ zs.length ∧ zs.getD (9 + tkl zs) 0 = ((zs.length - (10 + tkl zs) : Nat) : Int))
def limT (zs : List Int) : Bool := decide (1 ≤ numOf zs 0 4 ∧ numOf zs 0 4 ≤ 400 ∧ 0 ≤ numOf zs 4 4 ∧ numOf zs 4 4 ≤ 400)

structure Tu where
  A : Int
  B : Int
  K : Int
  N : Int
  F : Nat
  Z : List Int
  L : Int
  M : Int
  H : Nat
  Y : List Int
  ok : Bool
def t0 : Tu := ⟨0, 0, 0, 0, 0, [], 0, 0, 0, [], false⟩
/-- What is read of bytes. -/
def readT (zs : List Int) : Tu :=
  if (whole zs && (limT zs && ((readR unfK (keyP zs)).2.2.2.2 && (readR unfV (valP zs)).2.2.2.2))) = true then
    ⟨numOf zs 0 4, numOf zs 4 4, (readR unfK (keyP zs)).1, (readR unfK (keyP zs)).2.1, (readR unfK (keyP zs)).2.2.1, (readR unfK (keyP zs)).2.2.2.1, (readR unfV (valP zs)).1, (readR unfV (valP zs)).2.1, (readR unfV (valP zs)).2.2.1, (readR unfV (valP zs)).2.2.2.1, true⟩
  else t0
theorem readT_no {zs : List Int} (h : ¬ (whole zs = true ∧ limT zs = true ∧ (readR unfK (keyP zs)).2.2.2.2 = true ∧ (readR unfV (valP zs)).2.2.2.2 = true)) : readT zs = t0 := by
  unfold readT
  rw [if_neg]
  rw [Bool.and_eq_true, Bool.and_eq_true, Bool.and_eq_true]
  exact h
theorem readT_yes {zs : List Int} {RK RN : Int} {RF : Nat} {RZ : List Int} {SK SN : Int} {SF : Nat} {SZ : List Int} (h1 : whole zs = true) (h2 : limT zs = true) (hk : readR unfK (keyP zs) = (RK, RN, RF, RZ, true)) (hv : readR unfV (valP zs) = (SK, SN, SF, SZ, true)) :
    readT zs = ⟨numOf zs 0 4, numOf zs 4 4, RK, RN, RF, RZ, SK, SN, SF, SZ, true⟩ := by
  unfold readT
  rw [hk, hv, h1, h2]
  rfl

theorem drop_bd {zs : List Int} (h : ∀ i, 0 ≤ zs.getD i 0 ∧ zs.getD i 0 ≤ 255) (k : Nat) : ∀ i, 0 ≤ (zs.drop k).getD i 0 ∧ (zs.drop k).getD i 0 ≤ 255 := by
  intro i
  have := h (k + i)
  simpa [List.getD, List.getElem?_drop] using this
theorem take_bd {zs : List Int} (h : ∀ i, 0 ≤ zs.getD i 0 ∧ zs.getD i 0 ≤ 255) (k : Nat) : ∀ i, 0 ≤ (zs.take k).getD i 0 ∧ (zs.take k).getD i 0 ≤ 255 := by
  intro i
  by_cases hi : i < k
  · have := h i
    simpa [List.getD, List.getElem?_take, hi] using this
  · simp [List.getD, List.getElem?_take, hi]

theorem four {zs : List Int} (k : Nat) (h : k + 4 ≤ zs.length) : (zs.drop k).take 4 = [zs.getD k 0, zs.getD (k + 1) 0, zs.getD (k + 2) 0, zs.getD (k + 3) 0] := by
  apply List.ext_getElem?
  intro i
  rw [List.getElem?_take, List.getElem?_drop]
  match i with
  | 0 => simp [List.getD, List.getElem?_eq_getElem (show k < zs.length by omega)]
  | 1 => simp [List.getD, List.getElem?_eq_getElem (show k + 1 < zs.length by omega)]
  | 2 => simp [List.getD, List.getElem?_eq_getElem (show k + 2 < zs.length by omega)]
  | 3 => simp [List.getD, List.getElem?_eq_getElem (show k + 3 < zs.length by omega)]
  | i + 4 => simp; omega

theorem putL_num {zs : List Int} (hz : ∀ i, 0 ≤ zs.getD i 0 ∧ zs.getD i 0 ≤ 255) (k : Nat) (h : k + 4 ≤ zs.length) :
    putL (numOf zs k 4) 4 = (zs.drop k).take 4 ∧ 0 ≤ numOf zs k 4 ∧ numOf zs k 4 ≤ 4294967295 := by
  have b0 := hz k
  have b1 := hz (k + 1)
  have b2 := hz (k + 2)
  have b3 := hz (k + 3)
  have ev : val (byteFrom zs k) 0 4 = ((zs.getD (k + 3) 0 * 256 + zs.getD (k + 2) 0) * 256 + zs.getD (k + 1) 0) * 256 + zs.getD k 0 := by
    simp [val, byteFrom]
  have hy := (num_yes zs k 4 (by omega) (by omega) h (by rw [ev]; omega)).2
  have hy' : numOf zs k 4 = ((zs.getD (k + 3) 0 * 256 + zs.getD (k + 2) 0) * 256 + zs.getD (k + 1) 0) * 256 + zs.getD k 0 := by rw [← ev]; exact hy
  rw [hy', four k h]
  generalize zs.getD k 0 = x0 at *
  generalize zs.getD (k + 1) 0 = x1 at *
  generalize zs.getD (k + 2) 0 = x2 at *
  generalize zs.getD (k + 3) 0 = x3 at *
  obtain ⟨y0, rfl⟩ := Int.eq_ofNat_of_zero_le b0.1
  obtain ⟨y1, rfl⟩ := Int.eq_ofNat_of_zero_le b1.1
  obtain ⟨y2, rfl⟩ := Int.eq_ofNat_of_zero_le b2.1
  obtain ⟨y3, rfl⟩ := Int.eq_ofNat_of_zero_le b3.1
  have en : (((y3 : Int) * 256 + y2) * 256 + y1) * 256 + y0 = ((((y3 * 256 + y2) * 256 + y1) * 256 + y0 : Nat) : Int) := by omega
  rw [en]
  refine ⟨?_, by omega, by omega⟩
  have es : sh (((y3 * 256 + y2) * 256 + y1) * 256 + y0) 4 = 0 := by unfold sh; exact Nat.div_eq_of_lt (by omega)
  show putL (((((y3 * 256 + y2) * 256 + y1) * 256 + y0 : Nat) : Int)) ((4 : Nat) : Int) = _
  rw [putL_yes _ 4 (by omega) (by omega) es]
  simp only [dig, List.range_succ, List.range_zero, List.nil_append, List.map_append, List.map_cons, List.map_nil, sh]
  simp
  omega

theorem parts_eq {zs : List Int} (h : 10 + tkl zs ≤ zs.length) : zs = zs.take 4 ++ ((zs.drop 4).take 4 ++ ([zs.getD 8 0] ++ (keyP zs ++ ([zs.getD (9 + tkl zs) 0] ++ valP zs)))) := by
  have h9 : ∀ k, k < zs.length → zs.drop k = zs.getD k 0 :: zs.drop (k + 1) := fun k hk => drop_cons zs k hk
  have e1 : zs.drop (9 + tkl zs) = [zs.getD (9 + tkl zs) 0] ++ valP zs := by
    rw [h9 _ (by omega)]
    simp only [valP, List.singleton_append]
    rw [show 9 + tkl zs + 1 = 10 + tkl zs by omega]
  have e2 : zs.drop 9 = keyP zs ++ zs.drop (9 + tkl zs) := by
    rw [keyP, ← List.drop_drop]
    exact (List.take_append_drop _ _).symm
  have e3 : zs.drop 8 = [zs.getD 8 0] ++ zs.drop 9 := by rw [h9 8 (by omega)]; rfl
  have e4 : zs.drop 4 = (zs.drop 4).take 4 ++ zs.drop 8 := by
    conv => lhs; rw [← List.take_append_drop 4 (zs.drop 4)]
    rw [List.drop_drop]
  rw [← e1, ← e2, ← e3, ← e4]
  exact (List.take_append_drop 4 zs).symm

/-- Its bytes are those that it was read of, just where it is cut so and within limits. -/
theorem bytes_back {zs : List Int} (hz : ∀ i, 0 ≤ zs.getD i 0 ∧ zs.getD i 0 ≤ 255) (h : 10 + tkl zs ≤ zs.length) {RK RN : Int} {RF : Nat} {RZ : List Int} {SK SN : Int} {SF : Nat} {SZ : List Int}
    (hk : readR unfK (keyP zs) = (RK, RN, RF, RZ, true)) (hv : readR unfV (valP zs) = (SK, SN, SF, SZ, true)) {y x : Nat} (hy : Same RF y) (hx : Same SF x) :
    bytesT (numOf zs 0 4) (numOf zs 4 4) RK RN y RZ.length RZ SK SN x SZ.length SZ = zs ↔ whole zs = true ∧ limT zs = true := by
  obtain ⟨k1, k2, _⟩ := readK_ok hk (take_bd (drop_bd hz 9) _) hy
  obtain ⟨v1, v2, v3, _⟩ := readV_ok hv (drop_bd hz _) hx
  have hl : limT zs = true ↔ okT (numOf zs 0 4) (numOf zs 4 4) RK RN y RZ.length SK SN x SZ.length = true := by
    rw [okT_iff, limT, decide_eq_true_iff]
    exact ⟨fun h => ⟨h, k1, v1, v2⟩, fun h => h.1⟩
  obtain ⟨p1, _⟩ := putL_num hz 0 (by omega)
  obtain ⟨p2, _⟩ := putL_num hz 4 (by omega)
  have hkl : (keyP zs).length = tkl zs := by simp [keyP]; omega
  have hvl : (valP zs).length = zs.length - (10 + tkl zs) := by simp [valP]
  have h8 : zs.getD 8 0 = (tkl zs : Int) := by unfold tkl; have := (hz 8).1; omega
  have e : layT (numOf zs 0 4) (numOf zs 4 4) (keyP zs) (valP zs) = zs.take 4 ++ ((zs.drop 4).take 4 ++ ([zs.getD 8 0] ++ (keyP zs ++ ([((zs.length - (10 + tkl zs) : Nat) : Int)] ++ valP zs)))) := by
    have p1' : putL (numOf zs 0 4) 4 = zs.take 4 := p1
    have p2' : putL (numOf zs 4 4) 4 = (zs.drop 4).take 4 := p2
    rw [layT, p1', p2', hkl, hvl, h8]
  rw [bytesT, k2, v3]
  constructor
  · intro hb
    by_cases ho : okT (numOf zs 0 4) (numOf zs 4 4) RK RN y RZ.length SK SN x SZ.length = true
    · refine ⟨?_, hl.2 ho⟩
      rw [if_pos ho, e] at hb
      conv at hb => rhs; rw [parts_eq h]
      have c1 := List.append_cancel_left hb
      have c2 := List.append_cancel_left c1
      have c3 := List.append_cancel_left c2
      have c4 := List.append_cancel_left c3
      have c5 := List.append_cancel_right c4
      rw [whole, decide_eq_true_iff]
      exact ⟨h, (List.cons.inj c5).1.symm⟩
    · rw [if_neg ho] at hb
      rw [← hb] at h
      simp at h
  · rintro ⟨hw, hm⟩
    rw [if_pos (hl.1 hm), e]
    rw [whole, decide_eq_true_iff] at hw
    rw [← hw.2]
    exact (parts_eq h).symm
theorem whole_10 {zs : List Int} (h : whole zs = true) : 10 + tkl zs ≤ zs.length := by
  rw [whole, decide_eq_true_iff] at h; exact h.1
end Go.Proofs.Ytebhipicfgnajaa
