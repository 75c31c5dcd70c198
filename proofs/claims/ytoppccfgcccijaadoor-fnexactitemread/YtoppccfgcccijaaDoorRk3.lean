/- A region that draws its order: what stands may become more on the way; what is not wanted is passed by. No statement of its own; no conditions. -/
import Derived.Test.YtoppccfgcccijaaDoorRk2
namespace Go.Proofs.YtoppccfgcccijaaDoor
open Go

section
variable {P : Program} {ops : Array Oper} {Q : Exit → Act → World → Prop} {md : Region.Mode} {S S' : World → Prop} {L : Nat}
theorem anyK_imp (hS : ∀ w, S' w → S w) : ∀ (n : Nat) (listed : Array Bool) (a : Act) (w : World), anyK P md ops Q S' L n listed a w → anyK P md ops Q S L n listed a w
  | 0, _, _, _, h => h
  | n + 1, _, _, _, h => ⟨h.1, fun i hi => wpOp_mono (fun a' w' k => ⟨k.1.imp id (hS _), anyK_imp hS n _ a' w' k.2⟩) (h.2 i hi)⟩
/-- More stands from here on. -/
theorem anyK_more {n : Nat} {listed : Array Bool} {a : Act} {w : World} (S' : World → Prop) (hS : ∀ w, S' w → S w) (h0 : S' w) (h : S' w → anyK P md ops Q S' L n listed a w) : anyK P md ops Q S L n listed a w := anyK_imp hS n listed a w (h h0)
/-- Number i, which is not wanted, is passed by. -/
theorem anyK_skip {i : Nat} {oi : Oper} {n : Nat} {listed : Array Bool} {a : Act} {w : World} (hi : ops[i]? = some oi) (hs : Region.noSelect ops = true) (hf : Region.free md ops listed i = true) (hr : (Region.ready md ops listed).contains i = true) (hL : ops[L]? = none)
    (hQ : ∀ c a w, Q (.panic c) (a.put oi.dst undef) w → Q (.panic c) a w) (hw : Region.wanted oi (yielded ops a.tmps) = false) (hS : S w) (d : Option Tmp) (hd : oi.dst = d)
    (h : anyK P md ops Q S L n (listed.setIfInBounds i true) (a.put d undef) w) : anyK P md ops Q S L (n + 1) listed a w :=
  anyK_first2 hi (Region.noSelect_spec hs) hQ hL n listed a w (Region.free_spec hi hf) (by simpa using hr) (.inr ⟨hw, rfl⟩) hS (by rw [hd]; exact h)
end
end Go.Proofs.YtoppccfgcccijaaDoor
