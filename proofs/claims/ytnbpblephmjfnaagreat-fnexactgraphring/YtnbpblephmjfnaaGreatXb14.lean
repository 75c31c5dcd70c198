/- A slice that begins inside a row of the call's own; the laws' markIntS over it. Conditions: at most 2^21 numbers. -/
import Derived.Test.YtnbpblephmjfnaaGreatNi
import Derived.Test.YtnbpblephmjfnaaGreatHv14
namespace Go.Proofs.YtnbpblephmjfnaaGreat
open Go.RowKit
set_option maxRecDepth 100000
def TailI (w : World) (base : Nat) (a : Option Addr) (m : Nat) (zs : List Int) : Prop :=
 (a = none ∧ m = 0 ∧ zs = []) ∨ ∃ (g k cap : Nat) (ys : List Int), a = some ⟨g, k, none⟩ ∧ ys.length = k ∧ zs.length = m ∧ w.ownsRow base 3 1 (.slice (some ⟨g, 0, none⟩) (k + m) cap) (k + m) (ins (ys ++ zs))
theorem TailI.below {w w' : World} {base : Nat} {a : Option Addr} {m : Nat} {zs : List Int} (h : TailI w base a m zs) {B : Nat} (b : Below B w w') (hB : w.heap.size ≤ B) : TailI w' base a m zs := by
 rcases h with h | ⟨g, k, cap, ys, h1, h2, h3, h4⟩
 · exact .inl h
 · exact .inr ⟨g, k, cap, ys, h1, h2, h3, owns_below b hB h4⟩
theorem TailI.lower {w : World} {base base' : Nat} {a : Option Addr} {m : Nat} {zs : List Int} (h : TailI w base a m zs) (hb : base' ≤ base) : TailI w base' a m zs := by
 rcases h with h | ⟨g, k, cap, ys, h1, h2, h3, h4⟩
 · exact .inl h
 · exact .inr ⟨g, k, cap, ys, h1, h2, h3, owns_lower h4 hb⟩
theorem TailI.lt {w : World} {base : Nat} {a : Option Addr} {m : Nat} {zs : List Int} (h : TailI w base a m zs) {x : Addr} (e : a = some x) : base ≤ x.block ∧ x.block < w.heap.size := by
 rcases h with ⟨h, _⟩ | ⟨g, k, cap, ys, h1, h2, h3, h4⟩
 · rw [h] at e; cases e
 · rw [h1] at e; cases e
   exact h4.lt g rfl
theorem TailI.reads {w : World} {base : Nat} {a : Option Addr} {m : Nat} {zs : List Int} (h : TailI w base a m zs) (hb : ∀ i, -9223372036854775808 ≤ zs.getD i 0 ∧ zs.getD i 0 ≤ 9223372036854775807) : ReadsI w a m zs := by
 rcases h with ⟨rfl, rfl, rfl⟩ | ⟨g, k, cap, ys, rfl, h2, h3, h4⟩
 · exact ⟨rfl, .inl rfl, hb⟩
 · refine ⟨h3, .inr ⟨g, k, rfl, fun i hi => ?_⟩, hb⟩
   rw [h4.cellAt (k + i) (by omega), getD_ins, List.getElem?_append_right (by omega), h2, Nat.add_sub_cancel_left, List.getD_eq_getElem?_getD]
   rw [List.getElem?_eq_getElem (by omega)]; rfl
theorem TailI.own {w : World} {base g k m cap : Nat} {ys zs : List Int} (h2 : ys.length = k) (h3 : zs.length = m) (h4 : w.ownsRow base 3 1 (.slice (some ⟨g, 0, none⟩) (k + m) cap) (k + m) (ins (ys ++ zs))) : TailI w base (some ⟨g, k, none⟩) m zs := .inr ⟨g, k, cap, ys, rfl, h2, h3, h4⟩
theorem TailI.within {lo hi : Nat} {w w' : World} (h : Within lo hi w w') {base : Nat} {a : Option Addr} {m : Nat} {zs : List Int} (o : TailI w base a m zs) (hb : hi ≤ base) : TailI w' base a m zs := by
 rcases o with o | ⟨g, k, cap, ys, h1, h2, h3, o⟩
 · exact .inl o
 · refine .inr ⟨g, k, cap, ys, h1, h2, h3, o.1, ?_⟩
   rcases o.2 with hn | ⟨g, cap, cur, e, hbg, hg, rest⟩
   · exact .inl hn
   · exact .inr ⟨g, cap, cur, e, hbg, (h.block g (Array.getElem?_eq_some_iff.1 hg).1 (.inr (by omega))).trans hg, rest⟩
set_option maxHeartbeats 1600000 in
theorem markIntS_at (base g o n c cap : Nat) (k : Int) (ys zs : List Int) (w : World) (ho : ys.length = o) (hz : zs.length = n) (hn : n ≤ 2097152) (hk0 : 0 ≤ k) (hk1 : k ≤ 1000000000)
 (hown : w.ownsRow base 3 1 (.slice (some ⟨g, 0, none⟩) (o + n) cap) (o + n) (ins (ys ++ zs))) :
 Calls Tryz.prog 22 #[.slice (some ⟨g, o, none⟩) n c, .int .i64 k] w fun e w' =>
  e = .returned (.int .i64 (k + n)) ∧ w'.ownsRow base 3 1 (.slice (some ⟨g, 0, none⟩) (o + n) cap) (o + n) (ins (ys ++ marksI k n)) ∧ w.grownBy w' (some g) := by
 go_enter Tryz.func22, Tryz.ntmps22
 go_wp2
 go_loopw [1, 5] (fun kk i wr => ∃ j : Nat, j ≤ n ∧ i = .int .i64 j ∧ kk = .int .i64 (k + j) ∧ Hid (wr.ownsRow base 3 1 (.slice (some ⟨g, 0, none⟩) (o + n) cap) (o + n) (ins (ys ++ (marksI k j ++ zs.drop j)))) ∧ Hid (w.grownBy wr (some g))) (fun _ i _ => n - (intOf i).toNat)
 case atStart => exact ⟨0, Nat.zero_le _, rfl, by simp, hid (by simpa [marksI] using hown), hid ⟨rfl, rfl, rfl, Nat.le_refl _, fun _ _ _ => rfl⟩⟩
 case round =>
  obtain ⟨j, hj, rfl, rfl, HO, HG⟩ := hrel
  by_cases hlt : j < n
  · have hlt' : (j : Int) < (n : Int) := by omega
    have hj0 : (0 : Int) ≤ (j : Int) := by omega
    have hcy : ∃ v, wr.cell? ⟨g, o + j, none⟩ = some v := by
     rw [HO.out.cellAt (o + j) (by omega)]
     exact ⟨_, List.getElem?_eq_getElem (by simp [ins, marksI]; omega)⟩
    obtain ⟨v, hcy⟩ := hcy
    have hfr : wr.frozen? ⟨g, o + j, none⟩ = false := HO.out.frozenAt (o + j)
    have R := HO.out.stored (o + j) (.int .i64 (k + j))
    have e0 : (ins (ys ++ (marksI k j ++ zs.drop j))).set (o + j) (.int .i64 (k + j)) = ins (ys ++ (marksI k (j + 1) ++ zs.drop (j + 1))) := by
     unfold ins
     rw [← List.map_set, List.set_append_right _ _ (by omega), ho, Nat.add_sub_cancel_left, marksI_succ, List.set_append_right _ _ (by rw [marksI_length]; omega), marksI_length, Nat.sub_self, List.drop_eq_getElem_cons (by omega), List.set_cons_zero, List.append_assoc]
     rfl
    rw [e0] at R
    have R1 := hid R
    have HG2 := hid (grown_trans HG.out R.2)
    clear R HO HG e0 hown
    go_wp2
    go_roundw
    case rel => exact ⟨j + 1, by omega, by go_num, by go_num, hid R1.out.1, HG2⟩
    case measure => simp [intOf]; omega
  · go_wp2
    go_ret
    obtain rfl : j = n := by omega
    have h1 := HO.out
    rw [List.drop_eq_nil_of_le (by omega), List.append_nil] at h1
    exact ⟨rfl, h1, HG.out⟩
theorem markIntS_tail {base n : Nat} {a : Option Addr} (c : Nat) (k : Int) {zs : List Int} {w : World} (hn : n ≤ 2097152) (hk0 : 0 ≤ k) (hk1 : k ≤ 1000000000) (h : TailI w base a n zs) :
 Calls Tryz.prog 22 #[.slice a n c, .int .i64 k] w fun e w' => e = .returned (.int .i64 (k + n)) ∧ TailI w' base a n (marksI k n) ∧ w.grownBy w' (a.map Addr.block) := by
 rcases h with ⟨rfl, rfl, rfl⟩ | ⟨g, o, cap, ys, rfl, h2, h3, h4⟩
 · refine (markIntS_zero none c k w).mono fun e w' ⟨he, hw⟩ => ?_
   subst hw
   exact ⟨by rw [he]; simp, .inl ⟨rfl, rfl, rfl⟩, grown_refl _ _⟩
 · refine (markIntS_at base g o n c cap k ys zs w h2 h3 hn hk0 hk1 h4).mono fun e w' ⟨he, hw, hg⟩ => ?_
   exact ⟨he, .inr ⟨g, o, cap, ys, rfl, h2, marksI_length _ _, hw⟩, hg⟩
end Go.Proofs.YtnbpblephmjfnaaGreat
