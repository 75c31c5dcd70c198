/- The contract of the draw of what is kept: some yes and no, at most 1000, in new memory. For codes of at most 2^21 bytes. -/
import Derived.Test.YtnnnehjlegjejaaDoorD4s
import Derived.Test.YtnnnehjlegjejaaDoorBn
namespace Go.Proofs.YtnnnehjlegjejaaDoor
open Go.RowKit

theorem bls_append (a : List Bool) (b : Bool) : bls (a ++ [b]) = bls a ++ [.bool b] := by simp [bls]
theorem ReadsB.owned {w : World} {base : Nat} {v : Value} {bs : List Bool} (h : w.ownsRow base 4 1 v bs.length (bls bs)) : ∃ a c, v = .slice a bs.length c ∧ ReadsB w a bs.length bs := by
  rcases h.2 with ⟨h1, h2⟩ | ⟨g, cap, cur, h1, _⟩
  · have h2' : bs = [] := by simpa [bls] using h2
    subst h2'
    exact ⟨none, 0, h1, rfl, .inl rfl⟩
  · subst h1
    exact ⟨_, _, rfl, ReadsB.own h⟩

set_option maxRecDepth 100000 in
set_option maxHeartbeats 3200000 in
theorem l4keep {w : World} {g : Nat} {ad : Option Addr} {n cap : Nat} {zs : List Int} (c : Cur w g ad n cap zs) (hn : n ≤ 2097152) (most : Int) (h0 : 0 ≤ most) (hm : most ≤ 1000) :
    Calls Tryd.prog 33 #[.pointer (some ⟨g, 0, none⟩), .int .i64 most] w fun e w' => ∃ v, e = .returned v ∧ ∃ (bs : List Bool), w'.ownsRow w.heap.size 4 1 v bs.length (bls bs) ∧ bs.length ≤ 1000 ∧ Cur w' g ad n cap zs ∧ w.grownBy w' (some g) := by
  obtain ⟨i0, hi, hz0, hz1, hz2⟩ := info_parts Tryd.info4
  have hgl := c.lt
  go_enter Tryd.func33, Tryd.ntmps33
  go_wp2_with fail
  refine (l1Below c hn (most + 1) (by omega) (by omega)).mono ?_
  rintro e w1 ⟨x, rfl, hx0, hx1, c1, g1⟩
  obtain ⟨x, rfl⟩ := Int.eq_ofNat_of_zero_le hx0
  clear c
  go_wp2_with fail
  go_loopw [5, 6] (fun v i wr => ∃ (k : Nat) (L : List Bool), k ≤ x ∧ i = .int .i64 k ∧ L.length + k = x ∧ wr.ownsRow w.heap.size 4 1 v L.length (bls L) ∧ Cur wr g ad n cap zs ∧ w.grownBy wr (some g)) (fun _ i _ => (intOf i).toNat)
  case atStart => exact ⟨x, [], Nat.le_refl _, rfl, by simp, World.ownsRow_nil _ _ _ _, c1, g1⟩
  case round =>
    obtain ⟨k, L, hk, rfl, hL, hown, cr, gr⟩ := hrel
    by_cases hlt : 0 < k
    · have hlt' : (0 : Int) < (k : Int) := by omega
      clear c1 g1
      go_wp2_with fail
      refine (l1Once cr hn 2 (by omega) (by omega)).mono ?_
      rintro e w2 ⟨y, rfl, c2, g2⟩
      have o2 := hown.kept g2 (by
        cases hv : u5.ownBlock with
        | none => exact .inl rfl
        | some r => exact .inr (by have := hown.lt r hv; simp; omega))
      have z2 : w.heap.size ≤ w2.heap.size := Nat.le_trans gr.size g2.size
      have G2 := grown_trans gr g2
      clear hown cr gr g2
      go_wp2_with (at_builtin; refine wpList_append_own _ rfl _ _ 30 rfl w.heap.size 4 i0 (.bool false) 1 1 Tryd.underlying30 hi hz0 hz1 hz2 rfl (by decide) _ _ _ rfl (o2.alloc _) ⟨w2.heap.size, 0, none⟩ 1 1 [.bool y] rfl rfl (cell_one_new _ _ _) ?c2 ?c3 ?c4 ?c5 ?_)
      case c2 => intro u hu; simp at hu; subst hu; rfl
      case c3 => unfold maxLen; omega
      case c4 => omega
      case c5 => simp; omega
      intro v' w3 o3 g3 _
      have G3 : w.grownBy w3 (some g) := grown_new (grown_new G2 (World.grownBy_alloc w2 _ none) (fun r hr => by cases hr)) g3 (fun r hr => (o2.lt r hr).1)
      have c3 := (c2.alloc (.cells #[.bool y] 4)).other g3 (fun r hr => by have := (o2.lt r hr).1; omega)
      have O3 := hid o3
      clear g3 o3 o2 c2 G2
      go_wp2_with fail
      go_roundw
      case rel => exact ⟨k - 1, L ++ [y], by omega, by go_num, by rw [List.length_append]; simp; omega, by rw [bls_append, List.length_append]; exact O3.out, c3, G3⟩
      case measure => simp [intOf]; omega
    · have hlt' : ¬ (0 : Int) < (k : Int) := by omega
      go_wp2_with fail
      go_ret
      exact ⟨_, rfl, L, hown, by omega, cr, gr⟩
end Go.Proofs.YtnnnehjlegjejaaDoor
