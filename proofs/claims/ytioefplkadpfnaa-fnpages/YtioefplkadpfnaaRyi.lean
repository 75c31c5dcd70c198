/- Byte rows told apart by their type; what stays while other blocks are written (for items). No statement of its own; no conditions. -/
import Derived.Test.YtioefplkadpfnaaMgc
import Derived.Test.YtioefplkadpfnaaMga
namespace Go.Proofs.Ytioefplkadpfnaa
open Go.RowKit

/-- A slice of bytes that reads as z, in a block of bytes. -/
structure Ry (w : World) (v : Value) (z : List Int) : Prop where
  row : Row w v z
  ty : ∀ a c, v = .slice (some a) z.length c → 0 < z.length → ∃ cs fz, w.heap[a.block]? = some (.cells cs 5 fz)
  cp : ∀ a m c, v = .slice a m c → m ≤ c

theorem Ry.grown {w w' : World} {v : Value} {z : List Int} (h : Ry w v z) {row : Option Nat} (hg : w.grownBy w' row) (hr : ∀ k, row = some k → ∃ cs t fz, w.heap[k]? = some (.cells cs t fz) ∧ t ≠ 5) : Ry w' v z := by
  obtain ⟨a, c, rfl, h2, h3⟩ := h.row
  have key : ∀ b, a = some b → 0 < z.length → some b.block ≠ row := by
    intro b hb hz e
    subst hb
    obtain ⟨cs, fz, h4⟩ := h.ty b c rfl hz
    obtain ⟨cs', t, fz', h5, h6⟩ := hr _ e.symm
    rw [h4] at h5
    simp only [Option.some.injEq, Obj.cells.injEq] at h5
    exact h6 h5.2.1.symm
  refine ⟨⟨a, c, rfl, ?_, h3⟩, ?_, h.cp⟩
  · by_cases h0 : z.length = 0
    · exact ⟨h2.len, .inl h0, h2.bd⟩
    · exact h2.other hg (fun b hb => key b hb (by omega))
  · intro b c' hb hz
    obtain ⟨cs, fz, h4⟩ := h.ty b c' hb hz
    exact ⟨cs, fz, by rw [hg.block b.block (Array.getElem?_eq_some_iff.1 h4).1 (key b (by simpa using (Value.slice.inj hb).1) hz)]; exact h4⟩

theorem Ry.own {w : World} {base n : Nat} {v : Value} {z : List Int} (h : w.ownsRow base 5 1 v n (bys z)) (hbd : ∀ i, 0 ≤ z.getD i 0 ∧ z.getD i 0 ≤ 255) : Ry w v z := by
  refine ⟨Row.own h hbd, fun a c hv _ => ?_, fun a m c hv => ?_⟩
  · rcases h.2 with ⟨h1, _⟩ | ⟨g, cap, cur, h1, _, hg, _⟩
    · rw [h1] at hv; exact absurd (Value.slice.inj hv).1 (by simp)
    · rw [h1] at hv
      have := (Value.slice.inj hv).1
      simp only [Option.some.injEq] at this
      subst this
      exact ⟨cur, _, hg⟩
  · rcases h.2 with ⟨h1, _⟩ | ⟨g, cap, cur, h1, _, hg, h2, _⟩
    · rw [h1] at hv; obtain ⟨_, rfl, rfl⟩ := Value.slice.inj hv; exact Nat.le_refl _
    · rw [h1] at hv; obtain ⟨_, rfl, rfl⟩ := Value.slice.inj hv; exact h2
theorem Ry.still {w w' : World} {v : Value} {z : List Int} (h : Ry w v z) (hs : Still w w') : Ry w' v z := by
  obtain ⟨a, c, rfl, h2, h3⟩ := h.row
  exact ⟨⟨a, c, rfl, hs.reads h2, h3⟩, fun b c' hb hz => by rw [hs.heap]; exact h.ty b c' hb hz, h.cp⟩
theorem Ry.tail {w : World} {ad : Option Addr} {m c : Nat} {z : List Int} (h : Ry w (.slice ad m c) z) (hz : 0 < z.length) : ∃ b off, ad = some ⟨b, off, none⟩ ∧ m = z.length ∧ Ry w (.slice (some ⟨b, off + 1, none⟩) (m - 1) (c - 1)) (z.drop 1) := by
  obtain ⟨a, c', e, h2, h3⟩ := h.row
  obtain ⟨rfl, rfl, rfl⟩ := Value.slice.inj e
  rcases h2.cells with h0 | ⟨b, off, rfl, hc⟩
  · omega
  · refine ⟨b, off, rfl, rfl, ⟨⟨_, _, by rw [List.length_drop], ⟨by simp, .inr ⟨b, off + 1, rfl, fun i hi => ?_⟩, fun i => ?_⟩, fun hh => by simp at hh, by rw [List.length_drop]; omega⟩, fun x y hx _ => ?_, fun x y q hx => ?_⟩⟩
    · have := hc (i + 1) (by simp at hi; omega)
      rw [show off + 1 + i = off + (i + 1) by omega, this]
      simp [List.getD_eq_getElem?_getD]
    · have := h2.bd (i + 1)
      simpa [List.getD_eq_getElem?_getD, Nat.add_comm] using this
    · have hx' := (Value.slice.inj hx).1
      simp only [Option.some.injEq] at hx'
      subst hx'
      exact h.ty ⟨b, off, none⟩ _ rfl hz
    · have := h.cp _ _ _ rfl
      obtain ⟨_, rfl, rfl⟩ := Value.slice.inj hx
      omega

section
variable {wr w' : World} {g : Nat} {ad : Option Addr} {n cap : Nat} {zs : List Int}
theorem Ry.cursor {v : Value} {z : List Int} (r : Ry wr v z) (c : Cur wr g ad n cap zs) (hg : wr.grownBy w' (some g)) : Ry w' v z := by
  obtain ⟨i, hh, _, hrow⟩ := c.row
  refine r.grown hg fun k hk => ?_
  obtain rfl := Option.some.inj hk
  exact ⟨_, _, _, hrow, by decide⟩
end

end Go.Proofs.Ytioefplkadpfnaa
