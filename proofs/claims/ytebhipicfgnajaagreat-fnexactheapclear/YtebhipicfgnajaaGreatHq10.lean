/- A heap's rows are small; a heap in a block. No statement of its own; no conditions. -/
import Derived.Test.YtebhipicfgnajaaGreatHk10
import Derived.Test.YtebhipicfgnajaaGreatHm10
import Derived.Test.YtebhipicfgnajaaGreatHe10
namespace Go.Proofs.YtebhipicfgnajaaGreat
open Go.RowKit
set_option maxRecDepth 100000

theorem readR_key {d : Nat → Option Nat} {zs : List Int} {RK RN : Int} {RF : Nat} {RZ : List Int} {ok : Bool} (hR : readR d zs = (RK, RN, RF, RZ, ok)) : RZ.length ≤ zs.length := by
  have key : RZ = [] ∨ ∃ k, zs = k :: RZ := by
    cases zs with
    | nil =>
      simp only [readR, Prod.mk.injEq] at hR
      exact .inl hR.2.2.2.1.symm
    | cons k ts =>
      simp only [readR] at hR
      split at hR
      · split at hR
        · simp only [Prod.mk.injEq] at hR
          exact .inr ⟨k, by rw [hR.2.2.2.1]⟩
        · simp only [Prod.mk.injEq] at hR
          exact .inl hR.2.2.2.1.symm
      · split at hR
        · split at hR
          · simp only [Prod.mk.injEq] at hR
            exact .inl hR.2.2.2.1.symm
          · split at hR
            · split at hR
              · simp only [Prod.mk.injEq] at hR
                exact .inl hR.2.2.2.1.symm
              · simp only [Prod.mk.injEq] at hR
                exact .inl hR.2.2.2.1.symm
            · simp only [Prod.mk.injEq] at hR
              exact .inl hR.2.2.2.1.symm
        · simp only [Prod.mk.injEq] at hR
          exact .inl hR.2.2.2.1.symm
  rcases key with e | ⟨k, e⟩
  · rw [e]; simp
  · rw [e]; simp
theorem readT_len (zs : List Int) : (readT zs).Z.length ≤ zs.length ∧ (readT zs).Y.length ≤ zs.length := by
  obtain ⟨RK, RN, RF, RZ, b1, hk⟩ : ∃ (RK RN : Int) (RF : Nat) (RZ : List Int) (k1 : Bool), readR unfK (keyP zs) = (RK, RN, RF, RZ, k1) := ⟨_, _, _, _, _, rfl⟩
  obtain ⟨SK, SN, SF, SZ, b2, hr⟩ : ∃ (RK RN : Int) (RF : Nat) (RZ : List Int) (k1 : Bool), readR unfV (valP zs) = (RK, RN, RF, RZ, k1) := ⟨_, _, _, _, _, rfl⟩
  have d1 := readR_key hk
  have d2 := readR_key hr
  have l1 : (keyP zs).length ≤ zs.length := by simp [keyP]; omega
  have l2 : (valP zs).length ≤ zs.length := by simp [valP]
  unfold readT
  rw [hk, hr]
  split
  · exact ⟨by simp only; omega, by simp only; omega⟩
  · simp [t0]
/-- Rows whose texts are small. -/
def smallR (rs : List Rw) : Prop := ∀ r ∈ rs, r.t.Z.length ≤ 92 ∧ r.t.Y.length ≤ 92
theorem smallR_app {a b : List Rw} (h : smallR a) (k : smallR b) : smallR (a ++ b) := fun r hr => by
  rcases List.mem_append.1 hr with hr | hr
  · exact h r hr
  · exact k r hr
theorem rowsP_small (i : Nat) : ∀ (k : Nat) (ss : List (List Int)), (∀ z ∈ ss, z.length ≤ 92) → smallR (rowsP i k ss)
  | _, [], _ => fun r hr => by cases hr
  | k, z :: zs, h => by
    unfold rowsP
    refine smallR_app ?_ (rowsP_small i (k + 1) zs (fun y hy => h y (List.mem_cons_of_mem _ hy)))
    intro r hr
    split at hr
    · obtain rfl := List.mem_singleton.1 hr
      have h1 := readT_len z
      have h2 := h z (List.mem_cons_self ..)
      simp only
      omega
    · cases hr
theorem rowsG_small : ∀ (i : Nat) (ps : List Pg), (∀ p ∈ ps, ∀ z ∈ p.2, z.length ≤ 92) → smallR (rowsG i ps)
  | _, [], _ => fun r hr => by cases hr
  | i, p :: ps, h => by
    unfold rowsG
    exact smallR_app (rowsP_small i 0 p.2 (h p (List.mem_cons_self ..))) (rowsG_small (i + 1) ps (fun q hq => h q (List.mem_cons_of_mem _ hq)))
theorem rowsH_small (ps : List Pg) : smallR (rowsH ps) := by
  unfold rowsH
  cases e : okH ps with
  | false => intro r hr; simp at hr
  | true =>
    rw [if_pos rfl]
    refine rowsG_small 0 ps (fun p hp z hz => ?_)
    obtain ⟨i, hi, ei⟩ := List.getElem_of_mem hp
    have h1 := okPg_of ((okH_of e).2 i hi)
    rw [List.getD_eq_getElem?_getD, List.getElem?_eq_getElem hi, Option.getD_some, ei] at h1
    obtain ⟨k, hk, ek⟩ := List.getElem_of_mem hz
    have h2 := (okP_of h1.1).z k
    rw [List.getD_eq_getElem?_getD, List.getElem?_eq_getElem hk, Option.getD_some, ek] at h2
    exact h2
theorem sumR_small : ∀ rs : List Rw, smallR rs → sumR rs ≤ rs.length * 194
  | [], _ => by simp [sumR]
  | r :: rs, h => by
    have ih := sumR_small rs (fun q hq => h q (List.mem_cons_of_mem _ hq))
    have h1 := h r (List.mem_cons_self ..)
    simp only [sumR, nmR, List.length_cons]
    omega
theorem smallR_at {rs : List Rw} (h : smallR rs) {i : Nat} (hi : i < rs.length) : (rs.getD i rw0).t.Z.length ≤ 2097152 ∧ (rs.getD i rw0).t.Y.length ≤ 2097152 := by
  have := h (rs.getD i rw0) (by rw [List.getD_eq_getElem?_getD, List.getElem?_eq_getElem hi]; exact List.getElem_mem hi)
  omega
/-- A heap in a block. -/
structure BoxH (w : World) (g : Nat) (v : Value) : Prop where
  c0 : w.cell? ⟨g, 0, none⟩ = some v
structure ArgH (w : World) (g : Nat) (ad : Option Addr) (n c : Nat) (ps : List Pg) : Prop where
  box : BoxH w g (.slice ad n c)
  reads : ReadsG w ad ps
theorem BoxH.lt {w : World} {g : Nat} {v : Value} (h : BoxH w g v) : g < w.heap.size := World.block_lt_of_cell? w _ h.c0
theorem BoxH.below {w w' : World} {g : Nat} {v : Value} (h : BoxH w g v) {B : Nat} (hb : Below B w w') (hB : w.heap.size ≤ B) : BoxH w' g v := by
  have hlt := h.lt
  exact ⟨by rw [hb.cell (p := ⟨g, 0, none⟩) (by simp; omega)]; exact h.c0⟩
theorem BoxH.within {w w' : World} {g : Nat} {v : Value} (h : BoxH w g v) {lo hi : Nat} (hb : Within lo hi w w') (ho : g < lo ∨ hi ≤ g) : BoxH w' g v := by
  refine ⟨?_⟩
  rw [show w'.cell? ⟨g, 0, none⟩ = w.cell? ⟨g, 0, none⟩ by simp only [World.cell?]; rw [hb.block g h.lt ho]]
  exact h.c0
theorem ArgH.below {w w' : World} {g : Nat} {ad : Option Addr} {n c : Nat} {ps : List Pg} (h : ArgH w g ad n c ps) {B : Nat} (hb : Below B w w') (hB : w.heap.size ≤ B) : ArgH w' g ad n c ps := ⟨h.box.below hb hB, h.reads.below hb hB⟩
theorem ArgH.new {w : World} {ad : Option Addr} (n c : Nat) {ps : List Pg} (h : ReadsG w ad ps) (t : TypeId) (g : Nat) (hg : g = w.heap.size) : ArgH (w.alloc (.cells #[.slice ad n c] t)) g ad n c ps := by
  subst hg
  exact ⟨⟨box1 w (.slice ad n c) t⟩, h.below (Below.alloc1 w _) (Nat.le_refl _)⟩
end Go.Proofs.YtebhipicfgnajaaGreat
