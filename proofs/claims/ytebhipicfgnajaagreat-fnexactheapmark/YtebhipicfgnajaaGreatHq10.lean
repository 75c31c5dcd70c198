/- A heap's rows are small; a heap in a block. No statement of its own; no conditions. -/
import Derived.Test.YtebhipicfgnajaaGreatHk10
import Derived.Test.YtebhipicfgnajaaGreatHm10
import Derived.Test.YtebhipicfgnajaaGreatHe10
namespace Go.Proofs.YtebhipicfgnajaaGreat
open Go.RowKit
set_option maxRecDepth 100000

theorem readR_key {d : Nat → Option Nat} {zs : List Int} {RK RN : Int} {RF : Nat} {RZ : List Int} {ok : Bool} (hR : readR d zs = (RK, RN, RF, RZ, ok)) : RZ.length ≤ zs.length := by
  have key : RZ = [] ∨ ∃ k, zs = k :: RZ := by
    cases zs with
    | nil =>
      simp only [readR, Prod.mk.injEq] at hR
      exact .inl hR.2.2.2.1.symm
    | cons k ts =>
      simp only [readR] at hR
      split at hR
      · split at hR
        · simp only [Prod.mk.injEq] at hR
          exact .inr ⟨k, by rw [hR.2.2.2.1]⟩
        · simp only [Prod.mk.injEq] at hR
          exact .inl hR.2.2.2.1.symm
      · split at hR
        · split at hR
          · simp only [Prod.mk.injEq] at hR
            exact .inl hR.2.2.2.1.symm
          · split at hR
            · split at hR
              · simp only [Prod.mk.injEq] at hR
                exact .inl hR.2.2.2.1.symm
              · simp only [Prod.mk.injEq] at hR
                exact .inl hR.2.2.2.1.symm
            · simp only [Prod.mk.injEq] at hR
              exact .inl hR.2.2.2.1.symm
        · simp only [Prod.mk.injEq] at hR
          exact .inl hR.2.2.2.1.symm
  rcases key with e | ⟨k, e⟩
  · rw [e]; simp
  · rw [e]; simp
theorem readT_len (zs : List Int) : (readT zs).Z.length ≤ zs.length ∧ (readT zs).Y.length ≤ zs.length := by
  obtain ⟨RK, RN, RF, RZ, b1, hk⟩ : ∃ (RK RN : Int) (RF : Nat) (RZ : List Int) (k1 : Bool), readR unfK (keyP zs) = (RK, RN, RF, RZ, k1) := ⟨_, _, _, _, _, rfl⟩
  obtain ⟨SK, SN, SF, SZ, b2, hr⟩ : ∃ (RK RN : Int) (RF : Nat) (RZ : List Int) (k1 : Bool), readR unfV (valP zs) = (RK, RN, RF, RZ, k1) := ⟨_, _, _, _, _, rfl⟩
  have d1 := readR_key hk
  have d2 := readR_key hr
  have l1 : (keyP zs).length ≤ zs.length := by simp [keyP]; omega
  have l2 : (valP zs).length ≤ zs.length := by simp [valP]
  unfold readT
  rw [hk, hr]
  split
  · exact ⟨by simp only; omega, by simp only; omega⟩
  · simp [t0]
/-- Rows whose texts are small. -/
def smallR (rs : List Rw) : Prop := ∀ r ∈ rs, r.t.Z.length ≤ 92 ∧ r.t.Y.length ≤ 92
/-- A heap in a block. -/
structure BoxH (w : World) (g : Nat) (v : Value) : Prop where
  c0 : w.cell? ⟨g, 0, none⟩ = some v
structure ArgH (w : World) (g : Nat) (ad : Option Addr) (n c : Nat) (ps : List Pg) : Prop where
  box : BoxH w g (.slice ad n c)
  reads : ReadsG w ad ps
theorem BoxH.lt {w : World} {g : Nat} {v : Value} (h : BoxH w g v) : g < w.heap.size := World.block_lt_of_cell? w _ h.c0
theorem BoxH.below {w w' : World} {g : Nat} {v : Value} (h : BoxH w g v) {B : Nat} (hb : Below B w w') (hB : w.heap.size ≤ B) : BoxH w' g v := by
  have hlt := h.lt
  exact ⟨by rw [hb.cell (p := ⟨g, 0, none⟩) (by simp; omega)]; exact h.c0⟩
theorem BoxH.within {w w' : World} {g : Nat} {v : Value} (h : BoxH w g v) {lo hi : Nat} (hb : Within lo hi w w') (ho : g < lo ∨ hi ≤ g) : BoxH w' g v := by
  refine ⟨?_⟩
  rw [show w'.cell? ⟨g, 0, none⟩ = w.cell? ⟨g, 0, none⟩ by simp only [World.cell?]; rw [hb.block g h.lt ho]]
  exact h.c0
theorem ArgH.below {w w' : World} {g : Nat} {ad : Option Addr} {n c : Nat} {ps : List Pg} (h : ArgH w g ad n c ps) {B : Nat} (hb : Below B w w') (hB : w.heap.size ≤ B) : ArgH w' g ad n c ps := ⟨h.box.below hb hB, h.reads.below hb hB⟩
theorem ArgH.new {w : World} {ad : Option Addr} (n c : Nat) {ps : List Pg} (h : ReadsG w ad ps) (t : TypeId) (g : Nat) (hg : g = w.heap.size) : ArgH (w.alloc (.cells #[.slice ad n c] t)) g ad n c ps := by
  subst hg
  exact ⟨⟨box1 w (.slice ad n c) t⟩, h.below (Below.alloc1 w _) (Nat.le_refl _)⟩
end Go.Proofs.YtebhipicfgnajaaGreat
