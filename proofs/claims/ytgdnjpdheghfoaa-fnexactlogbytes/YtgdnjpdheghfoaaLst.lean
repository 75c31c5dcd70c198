/- A list of records of the call's own with its place; its marks; how great a scan's answer is. No conditions beside sizes. -/
import Derived.Test.YtgdnjpdheghfoaaRsc
import Derived.Test.YtgdnjpdheghfoaaRe
import Derived.Test.YtgdnjpdheghfoaaRm
import Derived.Test.YtgdnjpdheghfoaaRh
namespace Go.Proofs.Ytgdnjpdheghfoaa
open Go.RowKit
set_option maxRecDepth 100000

structure Lst (w : World) (lo hi : Nat) (v : Value) (rs : List Rc) : Prop where
  own : OwnR w lo hi v rs
  le : hi ≤ w.heap.size
theorem Lst.below {w w' : World} {lo hi : Nat} {v : Value} {rs : List Rc} (h : Lst w lo hi v rs) {B : Nat} (hb : Below B w w') (hB : w.heap.size ≤ B) : Lst w' lo hi v rs := ⟨h.own.below hb (Nat.le_trans h.le hB), Nat.le_trans h.le hb.size⟩
theorem Lst.within {w w' : World} {lo hi lo' hi' : Nat} {v : Value} {rs : List Rc} (h : Lst w lo hi v rs) (hw : Within lo' hi' w w') (ho : hi ≤ lo' ∨ hi' ≤ lo) : Lst w' lo hi v rs := ⟨h.own.agree (hw.agree h.le ho), Nat.le_trans h.le hw.size⟩
theorem Lst.rd {w : World} {lo hi : Nat} {a : Option Addr} {n c : Nat} {rs : List Rc} (h : Lst w lo hi (.slice a n c) rs) : ReadsR w a rs := h.own.rd
theorem markR {lo hi n c : Nat} {a : Option Addr} {rs : List Rc} {w : World} (k : Int) (h : Lst w lo hi (.slice a n c) rs) (hl : rs.length = n) (hn : n ≤ 2097152) (ht : tr rs ≤ 2097152) (hk0 : 0 ≤ k) (hk1 : k ≤ 500000000) (hb : ∀ i, (rs.getD i r0).D.length ≤ 2097152) :
    Calls Try.prog 38 #[.slice a n c, .int .i64 k] w fun e w' => e = .returned (.int .i64 (k + tr rs)) ∧ Lst w' lo hi (.slice a n c) (mkR k rs) ∧ Within lo hi w w' := by
  obtain ⟨ys, hy, hB, o⟩ := h.own.own
  rw [hl] at o
  refine (markRecordS k hl (by omega) hn (by omega) hk0 hk1 hb o hB h.own.top).mono ?_
  rintro e w' ⟨rfl, o', hB', hw⟩
  exact ⟨rfl, ⟨⟨⟨ys, by rw [mkR_length]; exact hy, hB', by rw [mkR_length, hl]; exact o'⟩, h.own.top⟩, Nat.le_trans h.le hw.size⟩, hw⟩
theorem fa_len {zs : List Int} {at' : Int} (h : (faOf zs at').c = 0) (hz : bdL zs) : at' + 7 + (faOf zs at').b.length ≤ (faOf zs at').n := by
  have hp := fa_c_pos h hz
  unfold faOf at h hp ⊢
  split at h
  · simp at h
  rename_i h1
  split at h
  · simp at h
  rename_i h2
  split at h
  · simp at h
  rename_i h3
  split at h
  · simp at h
  rename_i h4
  rw [if_neg h1, if_neg h2, if_neg h3, if_neg h4] at hp ⊢
  have hl : (sub zs (at'.toNat + 3) (numOf zs (at' + 1) 2).toNat).length ≤ (numOf zs (at' + 1) 2).toNat := by simp only [sub, List.length_take]; omega
  simp only at hp ⊢
  omega
theorem ra_len {zs : List Int} {at' : Int} (h : (raOf zs at').c = 0) (hz : bdL zs) : at' + 7 + (raOf zs at').r.D.length ≤ (raOf zs at').n := by
  by_cases h1 : (faOf zs at').c = 0
  · by_cases h2 : 12 ≤ (faOf zs at').b.length ∧ okR (recOf (faOf zs at').k (faOf zs at').b) = true
    · rw [ra_well h1 h2]
      have := fa_len h1 hz
      simp only [recOf, List.length_drop]
      omega
    · rw [ra_form h1 h2] at h; simp at h
  · rw [ra_code h1] at h; exact absurd h h1
theorem scanF_tr {zs : List Int} (hz : bdL zs) : ∀ (f : Nat) (at' lsn : Int), (tr (scanF zs f at' lsn).1 : Int) ≤ (scanF zs f at' lsn).2 - at'
  | 0, at', lsn => by simp [scanF, tr, tot]
  | f + 1, at', lsn => by
    by_cases h : (raOf zs at').c = 0 ∧ (raOf zs at').r.L = lsn
    · rw [scan_step h]
      have ih := scanF_tr hz f (raOf zs at').n (lsn + 1)
      have hl := ra_len h.1 hz
      simp only [tr_cons]
      omega
    · rw [scan_stop h]; simp [tr, tot]
theorem scanL_tr {zs : List Int} (hz : bdL zs) (lsn : Int) : tr (scanL zs lsn).1 ≤ 65536 ∧ 0 ≤ (scanL zs lsn).2 ∧ (scanL zs lsn).2 ≤ 65536 := by
  have h1 := scanF_tr hz (zs.length + 1) 0 lsn
  have h2 := (scanF_bd hz (zs.length + 1) 0 lsn).2 (by omega) (by omega)
  unfold scanL
  omega
theorem tr_bd {rs : List Rc} {B : Nat} (h : tr rs ≤ B) : rs.length ≤ B ∧ ∀ i, (rs.getD i r0).D.length ≤ B := by
  unfold tr at h
  refine ⟨by omega, fun i => ?_⟩
  have := tot_at (rs.map (·.D)) i
  rw [mapD_getD] at this
  omega
end Go.Proofs.Ytgdnjpdheghfoaa
