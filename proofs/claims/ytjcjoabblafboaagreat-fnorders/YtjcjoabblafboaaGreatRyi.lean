/- Byte rows told apart by their type; what stays while other blocks are written (for items). No statement of its own; no conditions. -/
import Derived.Test.YtjcjoabblafboaaGreatMgo
import Derived.Test.YtjcjoabblafboaaGreatMga
namespace Go.Proofs.YtjcjoabblafboaaGreat
open Go.RowKit
structure Ry (w : World) (v : Value) (z : List Int) : Prop where
 row : Row w v z
 ty : ∀ a c, v = .slice (some a) z.length c → 0 < z.length → ∃ cs fz, w.heap[a.block]? = some (.cells cs 5 fz)
 cp : ∀ a m c, v = .slice a m c → m ≤ c
theorem Ry.grown {w w' : World} {v : Value} {z : List Int} (h : Ry w v z) {row : Option Nat} (hg : w.grownBy w' row) (hr : ∀ k, row = some k → ∃ cs t fz, w.heap[k]? = some (.cells cs t fz) ∧ t ≠ 5) : Ry w' v z := by
 obtain ⟨a, c, rfl, h2, h3⟩ := h.row
 have key : ∀ b, a = some b → 0 < z.length → some b.block ≠ row := by
  intro b hb hz e
  subst hb
  obtain ⟨cs, fz, h4⟩ := h.ty b c rfl hz
  obtain ⟨cs', t, fz', h5, h6⟩ := hr _ e.symm
  rw [h4] at h5
  simp only [Option.some.injEq, Obj.cells.injEq] at h5
  exact h6 h5.2.1.symm
 refine ⟨⟨a, c, rfl, ?_, h3⟩, ?_, h.cp⟩
 · by_cases h0 : z.length = 0
   · exact ⟨h2.len, .inl h0, h2.bd⟩
   · exact h2.other hg (fun b hb => key b hb (by omega))
 · intro b c' hb hz
   obtain ⟨cs, fz, h4⟩ := h.ty b c' hb hz
   exact ⟨cs, fz, by rw [hg.block b.block (Array.getElem?_eq_some_iff.1 h4).1 (key b (by simpa using (Value.slice.inj hb).1) hz)]; exact h4⟩
theorem Ry.own {w : World} {base n : Nat} {v : Value} {z : List Int} (h : w.ownsRow base 5 1 v n (bys z)) (hbd : ∀ i, 0 ≤ z.getD i 0 ∧ z.getD i 0 ≤ 255) : Ry w v z := by
 refine ⟨Row.own h hbd, fun a c hv _ => ?_, fun a m c hv => ?_⟩
 · rcases h.2 with ⟨h1, _⟩ | ⟨g, cap, cur, h1, _, hg, _⟩
   · rw [h1] at hv; exact absurd (Value.slice.inj hv).1 (by simp)
   · rw [h1] at hv
     have := (Value.slice.inj hv).1
     simp only [Option.some.injEq] at this
     subst this
     exact ⟨cur, _, hg⟩
 · rcases h.2 with ⟨h1, _⟩ | ⟨g, cap, cur, h1, _, hg, h2, _⟩
   · rw [h1] at hv; obtain ⟨_, rfl, rfl⟩ := Value.slice.inj hv; exact Nat.le_refl _
   · rw [h1] at hv; obtain ⟨_, rfl, rfl⟩ := Value.slice.inj hv; exact h2
section
variable {wr w' : World} {g : Nat} {ad : Option Addr} {n cap : Nat} {zs : List Int}
end
end Go.Proofs.YtjcjoabblafboaaGreat
