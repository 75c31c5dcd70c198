/- Rows picked out of rows, in a slice of its own. No statement of its own; no conditions. -/
import Derived.Test.YtebhipicfgnajaaGreatHs10
namespace Go.Proofs.YtebhipicfgnajaaGreat
open Go.RowKit
set_option maxRecDepth 100000

/-- Some of the rows rs, whose texts they share, picked below place k; in a slice of its own. -/
structure PickR (w : World) (lo mid : Nat) (ad : Option Addr) (m c : Nat) (qs : List Rw) (xs : List Value) (k : Nat) : Prop where
  ex : ∃ (fs : List (Nat × Nat)) (ys : List Value), w.ownsRow mid 42 12 (.slice ad m c) m (cellsRw qs fs ys) ∧ fs.length = qs.length ∧ Bands w lo w.heap.size ys (textsR qs) ∧ (∀ i, i < qs.length → SameR (qs.getD i rw0) (fs.getD i (0, 0))) ∧ List.Sublist ys (xs.take (k * 2))
theorem PickR.own {w : World} {lo mid : Nat} {ad : Option Addr} {m c : Nat} {qs : List Rw} {xs : List Value} {k : Nat} (h : PickR w lo mid ad m c qs xs k) (hm : qs.length = m) (hlo : lo ≤ mid) : OwnRw w lo w.heap.size (.slice ad m c) qs := by
  obtain ⟨fs, ys, o, hf, hB, hq, _⟩ := h.ex
  exact ⟨⟨fs, ys, by rw [hm]; exact owns_lower o hlo, hf, hB, hq⟩, fun g hg => (o.lt g hg).2⟩
theorem PickR.nil (w : World) (lo mid : Nat) (xs : List Value) : PickR w lo mid none 0 0 [] xs 0 :=
  ⟨⟨[], [], World.ownsRow_nil _ _ _ _, rfl, Bands.nil _ _ _, (fun i hi => by cases hi), List.nil_sublist _⟩⟩
theorem PickR.skip {w : World} {lo mid : Nat} {ad : Option Addr} {m c : Nat} {qs : List Rw} {xs : List Value} {k : Nat} (h : PickR w lo mid ad m c qs xs k) : PickR w lo mid ad m c qs xs (k + 1) := by
  obtain ⟨fs, ys, o, hf, hB, hq, hs⟩ := h.ex
  refine ⟨⟨fs, ys, o, hf, hB, hq, hs.trans ?_⟩⟩
  have := List.take_sublist (k * 2) (xs.take ((k + 1) * 2))
  rw [List.take_take, show min (k * 2) ((k + 1) * 2) = k * 2 by omega] at this
  exact this
theorem PickR.below {w w' : World} {lo mid : Nat} {ad : Option Addr} {m c : Nat} {qs : List Rw} {xs : List Value} {k : Nat} (h : PickR w lo mid ad m c qs xs k) {B : Nat} (hb : Below B w w') (hB : w.heap.size ≤ B) : PickR w' lo mid ad m c qs xs k := by
  obtain ⟨fs, ys, o, hf, hB', hq, hs⟩ := h.ex
  exact ⟨⟨fs, ys, owns_below hb hB o, hf, (hB'.agree (Agree.below hb hB)).mono (Nat.le_refl _) hb.size, hq, hs⟩⟩
/-- One more is taken: row k of rs, whose cells have been appended. -/
theorem PickR.push {w w' : World} {lo mid : Nat} {ad : Option Addr} {m c : Nat} {qs rs : List Rw} {xs : List Value} {k : Nat} {fs : List (Nat × Nat)} {f : Nat × Nat} {ys : List Value} {r : Rw} {u v : Value} (o : w.ownsRow mid 42 12 (.slice ad m c) m (cellsRw qs fs ys)) (hf : fs.length = qs.length) (hB : Bands w lo w.heap.size ys (textsR qs)) (hq : ∀ i, i < qs.length → SameR (qs.getD i rw0) (fs.getD i (0, 0))) (hs : List.Sublist ys (xs.take (k * 2)))
    (hk : k < rs.length) (hX : Bands w lo w.heap.size xs (textsR rs)) (hr : rs.getD k rw0 = r) (hu : xs.getD (k * 2) nilS = u) (hv : xs.getD (k * 2 + 1) nilS = v) (hg : SameR r f)
    {ad' : Option Addr} {c' : Nat} (o' : w'.ownsRow mid 42 12 (.slice ad' (m + 1) c') (m + 1) (cellsRw qs fs ys ++ cellsOne r f u v)) (g : w.grownBy w' (Value.slice ad m c).ownBlock) : PickR w' lo mid ad' (m + 1) c' (qs ++ [r]) xs (k + 1) := by
  subst hr hu hv
  obtain ⟨B2, s2⟩ := hX.more hk hB hs
  have hyl : ys.length = qs.length * 2 := by rw [hB.len, textsR_len]
  have B3 := B2.beside g (fun i => owns_ne (B2.own i) o (by decide))
  refine ⟨⟨fs ++ [f], ys ++ [xs.getD (k * 2) nilS, xs.getD (k * 2 + 1) nilS], by rw [cellsRw_snoc _ _ _ _ _ _ _ hf hyl]; exact o', by simp [hf], B3.mono (Nat.le_refl _) g.size, fun i hi => ?_, s2⟩⟩
  rw [getD_app, getD_app, hf]
  by_cases hc : i < qs.length
  · rw [if_pos hc, if_pos hc]; exact hq i hc
  · have : i = qs.length := by simp at hi; omega
    rw [if_neg hc, if_neg hc, this, Nat.sub_self]; exact hg
end Go.Proofs.YtebhipicfgnajaaGreat
