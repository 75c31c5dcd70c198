/- The contract of the draw of some bytes, told a nil where there are none. For codes of at most 2^21 bytes. -/
import Derived.Test.YtioefplkadpfnaaMgc
namespace Go.Proofs.Ytioefplkadpfnaa
open Go.RowKit

set_option maxRecDepth 100000 in
set_option maxHeartbeats 3200000 in
theorem l1some2 {w : World} {g : Nat} {ad : Option Addr} {n cap : Nat} {zs : List Int} (c : Cur w g ad n cap zs) (hn : n ≤ 2097152) (most : Int) (h0 : 0 ≤ most) (hm : most ≤ 1000) :
    Calls Try.prog 73 #[.pointer (some ⟨g, 0, none⟩), .int .i64 most] w fun e w' => ∃ (v : Value) (L : List Int), e = .returned v ∧ w'.ownsRow w.heap.size 5 1 v L.length (bys L) ∧ (∀ i, 0 ≤ L.getD i 0 ∧ L.getD i 0 ≤ 255) ∧ L.length ≤ 1000 ∧ (L.length = 0 → v = .slice none 0 0) ∧ Cur w' g ad n cap zs ∧ w.grownBy w' (some g) := by
  obtain ⟨i0, hi, hz0, hz1, hz2⟩ := info_parts Try.info5
  have hgl := c.lt
  go_enter Try.func73, Try.ntmps73
  go_wp2_with fail
  refine (l1Below c hn (most + 1) (by omega) (by omega)).mono ?_
  rintro e w1 ⟨x, rfl, hx0, hx1, c1, g1⟩
  obtain ⟨x, rfl⟩ := Int.eq_ofNat_of_zero_le hx0
  clear c
  go_wp2_with fail
  go_loopw [5, 7] (fun v i wr => ∃ (k : Nat) (L : List Int), k ≤ x ∧ i = .int .i64 k ∧ L.length = k ∧ wr.ownsRow w.heap.size 5 1 v k (bys L) ∧ (∀ i, 0 ≤ L.getD i 0 ∧ L.getD i 0 ≤ 255) ∧ Hid (L.length = 0 → v = .slice none 0 0) ∧ Cur wr g ad n cap zs ∧ w.grownBy wr (some g)) (fun _ i _ => x - (intOf i).toNat)
  case atStart => exact ⟨0, [], by omega, rfl, rfl, World.ownsRow_nil _ _ _ _, by simp, hid (fun _ => rfl), c1, g1⟩
  case round =>
    obtain ⟨k, L, hk, rfl, hL, hown, hbd, hnl, cr, gr⟩ := hrel
    by_cases hlt : k < x
    · clear c1 g1
      go_wp2_with fail
      refine (l1Byte cr hn).mono ?_
      rintro e w2 ⟨y, rfl, hy0, hy1, c2, g2⟩
      have o2 := hown.kept g2 (by
        cases hv : u5.ownBlock with
        | none => exact .inl rfl
        | some r => exact .inr (by have := hown.lt r hv; simp; omega))
      have z2 : w.heap.size ≤ w2.heap.size := Nat.le_trans gr.size g2.size
      have G2 := grown_trans gr g2
      clear hown cr gr g2
      go_wp2_with (at_builtin; refine wpList_append_own _ rfl _ _ 22 rfl w.heap.size 5 i0 (.int .u8 0) 1 1 Try.underlying22 hi hz0 hz1 hz2 rfl (by decide) _ _ _ rfl (o2.alloc _) ⟨w2.heap.size, 0, none⟩ 1 1 [.int .u8 y] rfl rfl (cell_one_new _ _ _) ?c2 ?c3 ?c4 ?c5 ?_)
      case c2 => intro u hu; simp at hu; subst hu; rfl
      case c3 => unfold maxLen; omega
      case c4 => omega
      case c5 => simp; omega
      intro v' w3 o3 g3 _
      have G3 : w.grownBy w3 (some g) := grown_new (grown_new G2 (World.grownBy_alloc w2 _ none) (fun r hr => by cases hr)) g3 (fun r hr => (o2.lt r hr).1)
      have c3 := (c2.alloc (.cells #[.int .u8 y] 5)).other g3 (fun r hr => by have := (o2.lt r hr).1; omega)
      have O3 := hid o3
      clear g3 o3 o2 c2 G2
      go_wp2_with fail
      go_roundw
      case rel => exact ⟨k + 1, L ++ [y], by omega, by go_num, by rw [List.length_append, hL]; rfl, by rw [bys_append]; exact O3.out, bd_snoc hbd hy0 hy1, hid (fun h => by simp at h), c3, G3⟩
      case measure => simp [intOf]; omega
    · go_wp2_with fail
      go_ret
      exact ⟨_, L, rfl, by rw [hL]; exact hown, hbd, by omega, hnl.out, cr, gr⟩

end Go.Proofs.Ytioefplkadpfnaa
