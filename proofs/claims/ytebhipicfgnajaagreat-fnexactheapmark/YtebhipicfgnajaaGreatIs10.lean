/- A tuple of a heap marked, plain: its bytes are as long as they were, so that the page takes them. No program, no conditions. -/
import Derived.Test.YtebhipicfgnajaaGreatIo10
import Derived.Test.YtebhipicfgnajaaGreatIq10
namespace Go.Proofs.YtebhipicfgnajaaGreat
open Go.RowKit
set_option maxRecDepth 100000

/-- The bytes of a tuple with another mark. -/
def markB (zz : List Int) (b : Int) : List Int := layT (readT zz).A b (keyP zz) (valP zz)
theorem readT_ok {zz : List Int} (h : (readT zz).ok = true) : whole zz = true ∧ limT zz = true ∧ (readR unfK (keyP zz)).2.2.2.2 = true ∧ (readR unfV (valP zz)).2.2.2.2 = true := by
  refine Decidable.byContradiction (fun q => ?_)
  rw [readT_no q] at h
  cases h
theorem putL_four10 (x : Int) (h0 : 0 ≤ x) (h : x ≤ 4294967295) : (putL x 4).length = 4 := by
  obtain ⟨n, rfl⟩ := Int.eq_ofNat_of_zero_le h0
  rw [show (4 : Int) = ((4 : Nat) : Int) from rfl, putL_yes n 4 (by omega) (by omega) (Nat.div_eq_of_lt (by omega)), dig_length]
theorem readT_A {zz : List Int} (h : (readT zz).ok = true) : 1 ≤ (readT zz).A ∧ (readT zz).A ≤ 400 := by
  obtain ⟨h1, h2, h3, h4⟩ := readT_ok h
  rw [limT, decide_eq_true_iff] at h2
  have e : (readT zz).A = numOf zz 0 4 := by
    unfold readT
    split
    · rfl
    · rename_i q
      exact absurd (by rw [Bool.and_eq_true, Bool.and_eq_true, Bool.and_eq_true]; exact readT_ok h) q
  omega
theorem markB_len {zz : List Int} (h : (readT zz).ok = true) {b : Int} (hb : 0 ≤ b ∧ b ≤ 400) : (markB zz b).length = zz.length := by
  have hw := whole_10 (readT_ok h).1
  have hkl : (keyP zz).length = tkl zz := by simp [keyP]; omega
  have hvl : (valP zz).length = zz.length - (10 + tkl zz) := by simp [valP]
  have hA := readT_A h
  have p1 := putL_four10 (readT zz).A (by omega) (by omega)
  have p2 := putL_four10 b (by omega) (by omega)
  unfold markB layT
  simp only [List.length_append, List.length_cons, List.length_nil, hkl, hvl]
  omega
theorem mark_bytes {zz : List Int} (h : (readT zz).ok = true) (hz : ∀ i, 0 ≤ zz.getD i 0 ∧ zz.getD i 0 ≤ 255) {f1 f2 : Nat} (s1 : Same (readT zz).F f1) (s2 : Same (readT zz).H f2) {b : Int} (hb : 0 ≤ b ∧ b ≤ 400) :
    okT (readT zz).A b (readT zz).K (readT zz).N f1 (readT zz).Z.length (readT zz).L (readT zz).M f2 (readT zz).Y.length = true ∧ bytesT (readT zz).A b (readT zz).K (readT zz).N f1 (readT zz).Z.length (readT zz).Z (readT zz).L (readT zz).M f2 (readT zz).Y.length (readT zz).Y = markB zz b ∧ (-9223372036854775808 ≤ (readT zz).N ∧ (readT zz).N ≤ 9223372036854775807) ∧ (-9223372036854775808 ≤ (readT zz).M ∧ (readT zz).M ≤ 9223372036854775807) := by
  obtain ⟨h1, h2, h3, h4⟩ := readT_ok h
  obtain ⟨RK, RN, RF, RZ, b1, hk⟩ : ∃ (RK RN : Int) (RF : Nat) (RZ : List Int) (k1 : Bool), readR unfK (keyP zz) = (RK, RN, RF, RZ, k1) := ⟨_, _, _, _, _, rfl⟩
  obtain ⟨SK, SN, SF, SZ, b2, hr⟩ : ∃ (RK RN : Int) (RF : Nat) (RZ : List Int) (k1 : Bool), readR unfV (valP zz) = (RK, RN, RF, RZ, k1) := ⟨_, _, _, _, _, rfl⟩
  rw [hk] at h3
  rw [hr] at h4
  dsimp only at h3 h4
  subst h3
  subst h4
  have e := readT_yes h1 h2 hk hr
  unfold markB
  rw [e] at s1 s2 ⊢
  dsimp only at s1 s2 ⊢
  obtain ⟨k1, k2, k3⟩ := readK_ok hk (take_bd (drop_bd hz 9) _) s1
  obtain ⟨v1, v2, v3, v4⟩ := readV_ok hr (drop_bd hz _) s2
  rw [limT, decide_eq_true_iff] at h2
  have hok : okT (numOf zz 0 4) b RK RN f1 RZ.length SK SN f2 SZ.length = true := okT_iff.2 ⟨⟨h2.1, h2.2.1, hb.1, hb.2⟩, k1, v1, v2⟩
  exact ⟨hok, by rw [bytesT, if_pos hok, k2, v3], k3, v4⟩
theorem tot_set10 {ss : List (List Int)} {q : Nat} {z : List Int} (h : z.length = (ss.getD q []).length) : tot (ss.set q z) = tot ss := by
  induction ss generalizing q with
  | nil => rfl
  | cons s ss ih =>
    cases q with
    | zero => simp only [List.getD_cons_zero] at h; simp [tot, h]
    | succ q => simp only [List.getD_cons_succ] at h; simp [tot, ih h]
/-- Bytes as long as a slot's may take its place. -/
theorem put_same {L : Int} {ss : List (List Int)} {q : Nat} {z : List Int} {lsn : Int} (hok : okP L ss = true) (hq : q < ss.length) (hz : z.length = (ss.getD q []).length) (h1 : 1 ≤ z.length) (hl : 1 ≤ lsn ∧ lsn ≤ 1000000) : putOk L ss (q : Int) z lsn = true := by
  have hO := okP_of hok
  have hn := hO.n
  have hlay : layP ss q z = ss.set q z := by unfold layP; rw [show q + 1 - ss.length = 0 by omega, List.replicate_zero, List.append_nil]
  have hz92 := hO.z q
  have hat : ∀ i, ((ss.set q z).getD i []).length = (ss.getD i []).length := fun i => by
    rw [getD_set' ss q i z [] hq]
    by_cases e : i = q
    · subst e; rw [if_pos rfl, hz]
    · rw [if_neg e]
  unfold putOk
  rw [hok, Int.toNat_natCast, hlay, decide_eq_true (show (0 : Int) ≤ (q : Int) ∧ (q : Int) ≤ 15 by omega), decide_eq_true (show 1 ≤ z.length ∧ z.length ≤ 92 by omega), decide_eq_true hl, okP_mk ⟨by omega, by omega, by rw [List.length_set]; exact hn, fun h => by rw [List.length_set, hat]; exact hO.e (by rw [List.length_set] at h; exact h), fun i => by rw [hat]; exact hO.z i, by rw [List.length_set, tot_set10 hz]; exact hO.t⟩]
  rfl
/-- The slot of a place. -/
def slotH (ps : List Pg) (x y : Int) : List Int := (ps.getD x.toNat pg0).2.getD y.toNat []
def markOk (ps : List Pg) (x y b lsn : Int) : Bool := (atH ps x y).ok && decide (0 ≤ b ∧ b ≤ 400) && decide (1 ≤ lsn ∧ lsn ≤ 1000000)
def markHp (ps : List Pg) (x y b lsn : Int) : List Pg := if markOk ps x y b lsn = true then withH ps x.toNat (putP (ps.getD x.toNat pg0).1 (ps.getD x.toNat pg0).2 y (markB (slotH ps x y) b) lsn) else []
theorem markH_no {ps : List Pg} {x y b lsn : Int} (h : markOk ps x y b lsn = false) : markHp ps x y b lsn = [] := by unfold markHp; rw [h]; rfl
theorem atH_slot {ps : List Pg} {x y : Int} (h : (atH ps x y).ok = true) : atH ps x y = readT (slotH ps x y) ∧ (readT (slotH ps x y)).ok = true := by
  have e : atH ps x y = readT (slotH ps x y) := by unfold atH slotH; rw [if_pos (atH_ok h)]
  rw [e] at h
  exact ⟨e, h⟩
theorem mark_page {ps : List Pg} {x y b lsn : Int} (h : (atH ps x y).ok = true) (hb : 0 ≤ b ∧ b ≤ 400) (hl : 1 ≤ lsn ∧ lsn ≤ 1000000) : putOk (ps.getD x.toNat pg0).1 (ps.getD x.toNat pg0).2 y (markB (slotH ps x y) b) lsn = true := by
  obtain ⟨h1, h2, h3⟩ := atH_ok h
  have h4 := (okPg_of ((okH_of h1).2 x.toNat (by omega))).1
  obtain ⟨k, rfl⟩ : ∃ k : Nat, y = k := ⟨y.toNat, by omega⟩
  have h5 := (atH_slot h).2
  have h6 := whole_10 (readT_ok h5).1
  refine put_same h4 (by omega) ?_ ?_ hl
  · rw [markB_len h5 hb]; unfold slotH; rw [Int.toNat_natCast]
  · rw [markB_len h5 hb]; omega
theorem markH_small (ps : List Pg) (x y b lsn : Int) : (markHp ps x y b lsn).length ≤ 17 ∧ ∀ r ∈ markHp ps x y b lsn, SmP r.2 := by
  unfold markHp
  split
  · rename_i h
    unfold markOk at h
    rw [Bool.and_eq_true, Bool.and_eq_true] at h
    obtain ⟨h1, h2, _⟩ := atH_ok h.1.1
    have h3 := (okH_of h1).1
    obtain ⟨RL, RS, hR⟩ : ∃ RL RS, putP (ps.getD x.toNat pg0).1 (ps.getD x.toNat pg0).2 y (markB (slotH ps x y) b) lsn = (RL, RS) := ⟨_, _, rfl⟩
    rw [hR]
    exact ⟨by rw [withH_len]; omega, withH_small (okH_small h1) (put_small hR)⟩
  · exact ⟨by simp, fun r hr => by cases hr⟩
end Go.Proofs.YtebhipicfgnajaaGreat
