/- A tuple comes back from its bytes, plain. No program, no conditions. -/
import Derived.Test.YtlapfmfaammheaaTr
namespace Go.Proofs.Ytlapfmfaammheaa
open Go.RowKit
set_option maxRecDepth 100000

theorem isN_canon : isN 9221120237041090560 = true := by decide
theorem fbits_fbits (f : Nat) : fbits (fbits f) = fbits f := by
  by_cases h : isN f = true
  · rw [show fbits f = 9221120237041090560 by rw [fbits, if_pos h], fbits, if_pos isN_canon]
  · have e : fbits f = f := by rw [fbits, if_neg h]
    rw [e, e]
theorem frank_back {f : Nat} (hf : f < 18446744073709551616) (hz : f ≠ 9223372036854775808) : frank (back (frank f)) = frank f ∧ fbits (back (frank f)) = fbits f := by
  by_cases h : isN f = true
  · have e : frank f = 18446744073709551615 := by rw [frank, if_pos h]
    rw [e]
    have e2 : back 18446744073709551615 = 9223372036854775807 := by decide
    rw [e2]
    exact ⟨by decide, by rw [show fbits f = 9221120237041090560 by rw [fbits, if_pos h]]; decide⟩
  · have e2 : back (frank f) = f := by
      have hn : ¬ isN f = true := h
      rw [frank, if_neg hn]
      unfold back
      split
      · split <;> omega
      · split
        · split <;> omega
        · split <;> omega
    rw [e2]
    exact ⟨rfl, rfl⟩

theorem key_back {K N : Int} {f n : Nat} {zs : List Int} (hok : okK K N f n = true) (hl : zs.length = n) (hN : -9223372036854775808 ≤ N ∧ N ≤ 9223372036854775807) (hf : f < 18446744073709551616) :
    ∃ F, readR unfK (keyB K N f n zs) = (K, N, F, zs, true) ∧ fbits F = fbits f := by
  obtain ⟨ho, hK, hz⟩ := okK_I hok
  have hi := of_decide_eq_true ho
  have hc : K = 1 ∨ K = 2 ∨ K = 3 := by omega
  rw [keyB, if_pos hok]
  rcases hc with rfl | rfl | rfl
  · obtain rfl : f = 0 := by omega
    obtain rfl : zs = [] := List.eq_nil_of_length_eq_zero (by omega)
    refine ⟨0, ?_, rfl⟩
    have e : bytesI 1 N (frank 0) [] = 1 :: hi8 (N + 9223372036854775808).toNat 8 := by rw [bytesI, if_pos rfl]; rfl
    rw [e]
    simp only [readR]
    rw [if_neg (by decide), if_pos (hi8_len _), low_hi8 _ (by omega)]
    simp only [if_true]
    have : (((N + 9223372036854775808).toNat : Nat) : Int) - 9223372036854775808 = N := by omega
    rw [this]
  · obtain rfl : N = 0 := by omega
    obtain rfl : zs = [] := List.eq_nil_of_length_eq_zero (by omega)
    obtain ⟨b1, b2⟩ := frank_back hf hz
    refine ⟨back (frank f), ?_, b2⟩
    have e : bytesI 2 0 (frank f) [] = 2 :: hi8 (frank f) 8 := by rw [bytesI, if_neg (by decide), if_pos rfl]; rfl
    rw [e]
    simp only [readR]
    rw [if_neg (by decide), if_pos (hi8_len _), low_hi8 _ (frank_lt f hf), if_neg (by decide), if_pos trivial, unfK, if_pos b1]
  · obtain rfl : N = 0 := by omega
    obtain rfl : f = 0 := by omega
    refine ⟨0, ?_, rfl⟩
    have e : bytesI 3 0 (frank 0) zs = 3 :: zs := by rw [bytesI, if_neg (by decide), if_neg (by decide)]; rfl
    rw [e]
    simp only [readR]
    rw [if_pos trivial, if_pos (by omega)]

theorem val_back {K N : Int} {f n : Nat} {zs : List Int} (ho : okI K N f n = true) (hK : K ≠ 0) (hl : zs.length = n) (hN : -9223372036854775808 ≤ N ∧ N ≤ 9223372036854775807) (hf : f < 18446744073709551616) :
    ∃ F, readR unfV (valB K N f n zs) = (K, N, F, zs, true) ∧ fbits F = fbits f := by
  have hi := of_decide_eq_true ho
  have hc : K = 1 ∨ K = 2 ∨ K = 3 := by omega
  rw [valB, if_pos ⟨ho, hK⟩]
  rcases hc with rfl | rfl | rfl
  · obtain rfl : f = 0 := by omega
    obtain rfl : zs = [] := List.eq_nil_of_length_eq_zero (by omega)
    refine ⟨0, ?_, rfl⟩
    have e : bytesI 1 N (fbits 0) [] = 1 :: hi8 (N + 9223372036854775808).toNat 8 := by rw [bytesI, if_pos rfl]; rfl
    rw [e]
    simp only [readR]
    rw [if_neg (by decide), if_pos (hi8_len _), low_hi8 _ (by omega)]
    simp only [if_true]
    have : (((N + 9223372036854775808).toNat : Nat) : Int) - 9223372036854775808 = N := by omega
    rw [this]
  · obtain rfl : N = 0 := by omega
    obtain rfl : zs = [] := List.eq_nil_of_length_eq_zero (by omega)
    refine ⟨fbits f, ?_, fbits_fbits f⟩
    have e : bytesI 2 0 (fbits f) [] = 2 :: hi8 (fbits f) 8 := by rw [bytesI, if_neg (by decide), if_pos rfl]; rfl
    rw [e]
    simp only [readR]
    rw [if_neg (by decide), if_pos (hi8_len _), low_hi8 _ (fbits_lt f hf), if_neg (by decide), if_pos trivial, unfV, if_pos (fbits_fbits f)]
  · obtain rfl : N = 0 := by omega
    obtain rfl : f = 0 := by omega
    refine ⟨0, ?_, rfl⟩
    have e : bytesI 3 0 (fbits 0) zs = 3 :: zs := by rw [bytesI, if_neg (by decide), if_neg (by decide)]; rfl
    rw [e]
    simp only [readR]
    rw [if_pos trivial, if_pos (by omega)]

theorem four_dig (a : Nat) (h : a ≤ 400) : putL (a : Int) 4 = [((a % 256 : Nat) : Int), ((a / 256 : Nat) : Int), 0, 0] := by
  have e : sh a 4 = 0 := by unfold sh; exact Nat.div_eq_of_lt (by omega)
  show putL ((a : Nat) : Int) ((4 : Nat) : Int) = _
  rw [putL_yes a 4 (by omega) (by omega) e]
  simp only [dig, List.range_succ, List.range_zero, List.nil_append, List.map_append, List.map_cons, List.map_nil, sh]
  simp
  omega

theorem lay_list {A B : Int} (hA : 0 ≤ A ∧ A ≤ 400) (hB : 0 ≤ B ∧ B ≤ 400) (ks vs : List Int) : ∃ a b : Nat, A = a ∧ B = b ∧ a ≤ 400 ∧ b ≤ 400 ∧
    layT A B ks vs = ((a % 256 : Nat) : Int) :: ((a / 256 : Nat) : Int) :: 0 :: 0 :: ((b % 256 : Nat) : Int) :: ((b / 256 : Nat) : Int) :: 0 :: 0 :: (ks.length : Int) :: (ks ++ ((vs.length : Int) :: vs)) := by
  obtain ⟨a, rfl⟩ := Int.eq_ofNat_of_zero_le hA.1
  obtain ⟨b, rfl⟩ := Int.eq_ofNat_of_zero_le hB.1
  refine ⟨a, b, rfl, rfl, by omega, by omega, ?_⟩
  rw [layT, four_dig a (by omega), four_dig b (by omega)]
  simp

theorem lay_nums {A B : Int} (hA : 0 ≤ A ∧ A ≤ 400) (hB : 0 ≤ B ∧ B ≤ 400) (ks vs : List Int) : numOf (layT A B ks vs) 0 4 = A ∧ numOf (layT A B ks vs) 4 4 = B := by
  obtain ⟨a, b, rfl, rfl, ha, hb, e⟩ := lay_list hA hB ks vs
  rw [e]
  constructor
  · have ev : val (byteFrom (((a % 256 : Nat) : Int) :: ((a / 256 : Nat) : Int) :: 0 :: 0 :: ((b % 256 : Nat) : Int) :: ((b / 256 : Nat) : Int) :: 0 :: 0 :: (ks.length : Int) :: (ks ++ ((vs.length : Int) :: vs))) 0) 0 4 = (a : Int) := by
      simp [val, byteFrom]
      omega
    refine (num_yes _ 0 4 (by omega) (by omega) ?_ ?_).2.trans ev
    · simp
    · rw [ev]; omega
  · have ev : val (byteFrom (((a % 256 : Nat) : Int) :: ((a / 256 : Nat) : Int) :: 0 :: 0 :: ((b % 256 : Nat) : Int) :: ((b / 256 : Nat) : Int) :: 0 :: 0 :: (ks.length : Int) :: (ks ++ ((vs.length : Int) :: vs))) 4) 0 4 = (b : Int) := by
      simp [val, byteFrom]
      omega
    refine (num_yes _ 4 4 (by omega) (by omega) ?_ ?_).2.trans ev
    · simp
    · rw [ev]; omega

theorem lay_parts {A B : Int} (hA : 0 ≤ A ∧ A ≤ 400) (hB : 0 ≤ B ∧ B ≤ 400) (ks vs : List Int) :
    (layT A B ks vs).length = 10 + ks.length + vs.length ∧ tkl (layT A B ks vs) = ks.length ∧ keyP (layT A B ks vs) = ks ∧ valP (layT A B ks vs) = vs ∧ (layT A B ks vs).getD (9 + ks.length) 0 = (vs.length : Int) := by
  obtain ⟨a, b, rfl, rfl, ha, hb, e⟩ := lay_list hA hB ks vs
  have et : tkl (layT (a : Int) b ks vs) = ks.length := by unfold tkl; rw [e]; simp
  refine ⟨by rw [e]; simp; omega, et, ?_, ?_, ?_⟩
  · unfold keyP; rw [et, e]; simp
  · unfold valP; rw [et, e, show 10 + ks.length = ks.length + 1 + 9 by omega, ← List.drop_drop]; simp
  · rw [e, show 9 + ks.length = ks.length + 9 by omega]
    simp [List.getD]

/-- A tuple comes back from its bytes. -/
theorem tuple_back {A B K N : Int} {f n : Nat} {zs : List Int} {L M : Int} {h m : Nat} {ys : List Int} (hok : okT A B K N f n L M h m = true) (lz : zs.length = n) (ly : ys.length = m)
    (hN : -9223372036854775808 ≤ N ∧ N ≤ 9223372036854775807) (hM : -9223372036854775808 ≤ M ∧ M ≤ 9223372036854775807) (hf : f < 18446744073709551616) (hh : h < 18446744073709551616) :
    ∃ F H, readT (bytesT A B K N f n zs L M h m ys) = ⟨A, B, K, N, F, zs, L, M, H, ys, true⟩ ∧ fbits F = fbits f ∧ fbits H = fbits h := by
  obtain ⟨⟨a1, a2, a3, a4⟩, k1, v1, v2⟩ := okT_iff.1 hok
  obtain ⟨F, hk, hF⟩ := key_back k1 lz hN hf
  obtain ⟨H, hv, hH⟩ := val_back v1 v2 ly hM hh
  obtain ⟨p1, p2, p3, p4, p5⟩ := lay_parts (A := A) (B := B) (by omega) (by omega) (keyB K N f n zs) (valB L M h m ys)
  obtain ⟨n1, n2⟩ := lay_nums (A := A) (B := B) (by omega) (by omega) (keyB K N f n zs) (valB L M h m ys)
  rw [bytesT, if_pos hok]
  refine ⟨F, H, ?_, hF, hH⟩
  rw [readT_yes (zs := layT A B (keyB K N f n zs) (valB L M h m ys)) (RK := K) (RN := N) (RF := F) (RZ := zs) (SK := L) (SN := M) (SF := H) (SZ := ys) ?_ ?_ (by rw [p3]; exact hk) (by rw [p4]; exact hv), n1, n2]
  · rw [whole, decide_eq_true_iff, p2, p1, p5]
    exact ⟨by omega, by omega⟩
  · rw [limT, n1, n2]
    exact decide_eq_true ⟨a1, a2, a3, a4⟩

/-- With a byte less it is none. -/
theorem tuple_cut {A B K N : Int} {f n : Nat} {zs : List Int} {L M : Int} {h m : Nat} {ys : List Int} (hok : okT A B K N f n L M h m = true) (lz : zs.length = n) (ly : ys.length = m) :
    (readT ((bytesT A B K N f n zs L M h m ys).take ((bytesT A B K N f n zs L M h m ys).length - 1))).ok = false := by
  obtain ⟨⟨a1, a2, a3, a4⟩, k1, v1, v2⟩ := okT_iff.1 hok
  have lk := keyB_pos (zs := zs) k1 lz
  have lv := valB_pos (zs := ys) v1 v2 ly
  obtain ⟨p1, p2, p3, p4, p5⟩ := lay_parts (A := A) (B := B) (by omega) (by omega) (keyB K N f n zs) (valB L M h m ys)
  rw [bytesT, if_pos hok]
  generalize keyB K N f n zs = ks at *
  generalize valB L M h m ys = vs at *
  have e8 : tkl ((layT A B ks vs).take ((layT A B ks vs).length - 1)) = ks.length := by
    rw [← p2]
    unfold tkl
    congr 1
    simp only [List.getD, List.getElem?_take]
    rw [if_pos (by omega)]
  have e9 : ((layT A B ks vs).take ((layT A B ks vs).length - 1)).getD (9 + ks.length) 0 = (vs.length : Int) := by
    rw [← p5]
    simp only [List.getD, List.getElem?_take]
    rw [if_pos (by omega)]
  rw [readT_no]
  · rfl
  · intro k
    have hw := k.1
    rw [whole, decide_eq_true_iff, e8, e9] at hw
    simp only [List.length_take] at hw
    omega

theorem bytesT_lim {A B K N : Int} {f n : Nat} {zs : List Int} {L M : Int} {h m : Nat} {ys : List Int} (hok : okT A B K N f n L M h m = true) (lz : zs.length = n) (ly : ys.length = m) : 10 ≤ (bytesT A B K N f n zs L M h m ys).length ∧ (bytesT A B K N f n zs L M h m ys).length ≤ 92 := by
  obtain ⟨⟨a1, a2, a3, a4⟩, k1, v1, v2⟩ := okT_iff.1 hok
  have lk := keyB_pos (zs := zs) k1 lz
  have lv := valB_pos (zs := ys) v1 v2 ly
  obtain ⟨p1, _⟩ := lay_parts (A := A) (B := B) (by omega) (by omega) (keyB K N f n zs) (valB L M h m ys)
  rw [bytesT, if_pos hok, p1]
  omega
end Go.Proofs.Ytlapfmfaammheaa
