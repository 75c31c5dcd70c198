/- Bounds of a tuple's bytes. No program, no conditions. -/
import Derived.Test.YtebhipicfgnajaaTby
import Derived.Test.YtebhipicfgnajaaMga
namespace Go.Proofs.Ytebhipicfgnajaa
open Go.RowKit
set_option maxRecDepth 100000

theorem bdapp6 {A B : List Int} (ha : ∀ i, 0 ≤ A.getD i 0 ∧ A.getD i 0 ≤ 255) (hb : ∀ i, 0 ≤ B.getD i 0 ∧ B.getD i 0 ≤ 255) : ∀ i, 0 ≤ (A ++ B).getD i 0 ∧ (A ++ B).getD i 0 ≤ 255 := by
  intro i
  rw [getD_app]
  split
  · exact ha i
  · exact hb _
theorem layT_bd {A B : Int} {ks vs : List Int} (hk : ∀ i, 0 ≤ ks.getD i 0 ∧ ks.getD i 0 ≤ 255) (hv : ∀ i, 0 ≤ vs.getD i 0 ∧ vs.getD i 0 ≤ 255) (lk : ks.length ≤ 41) (lv : vs.length ≤ 41) : ∀ i, 0 ≤ (layT A B ks vs).getD i 0 ∧ (layT A B ks vs).getD i 0 ≤ 255 := by
  have one : ∀ k : Nat, k ≤ 41 → ∀ i, 0 ≤ [(k : Int)].getD i 0 ∧ [(k : Int)].getD i 0 ≤ 255 := fun k hk i => by
    match i with
    | 0 => show 0 ≤ (k : Int) ∧ (k : Int) ≤ 255; omega
    | i + 1 => simp
  unfold layT
  exact bdapp6 (putL_bd A 4) (bdapp6 (putL_bd B 4) (bdapp6 (one _ lk) (bdapp6 hk (bdapp6 (one _ lv) hv))))
theorem bytesT_bd {A B K N : Int} {f n : Nat} {zs : List Int} {L M : Int} {h m : Nat} {ys : List Int} (hz : ∀ i, 0 ≤ zs.getD i 0 ∧ zs.getD i 0 ≤ 255) (hy : ∀ i, 0 ≤ ys.getD i 0 ∧ ys.getD i 0 ≤ 255) (lz : zs.length = n) (ly : ys.length = m) : ∀ i, 0 ≤ (bytesT A B K N f n zs L M h m ys).getD i 0 ∧ (bytesT A B K N f n zs L M h m ys).getD i 0 ≤ 255 := by
  unfold bytesT
  split
  · rename_i hok
    obtain ⟨_, k1, v1, v2⟩ := okT_iff.1 hok
    exact layT_bd (keyB_bd rfl hz (by have := (okI_lim (okK_I k1).1).2; omega)).1 (valB_bd rfl hy (by have := (okI_lim v1).2; omega)).1 (keyB_len lz) (valB_len ly)
  · exact fun i => by simp
theorem bytesT_length {A B K N : Int} {f n : Nat} {zs : List Int} {L M : Int} {h m : Nat} {ys : List Int} (lz : zs.length = n) (ly : ys.length = m) : (bytesT A B K N f n zs L M h m ys).length ≤ 100 := by
  unfold bytesT
  split
  · have := putL_length A 4
    have := putL_length B 4
    have := keyB_len (K := K) (N := N) (f := f) lz
    have := valB_len (K := L) (N := M) (f := h) ly
    unfold layT
    simp only [List.length_append, List.length_cons, List.length_nil]
    omega
  · simp
end Go.Proofs.Ytebhipicfgnajaa
