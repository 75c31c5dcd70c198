/- Heaps that are answered are small. No statement of its own; no conditions. -/
import Derived.Test.YtkfhfjghfadofaaGreatIm10
import Derived.Test.YtkfhfjghfadofaaGreatPz
namespace Go.Proofs.YtkfhfjghfadofaaGreat
open Go.RowKit
set_option maxRecDepth 100000
theorem sz_small : ∀ qs : List Pg, (∀ p ∈ qs, SmP p.2) → sumG szP qs ≤ qs.length * 300
 | [], _ => by simp [sumG]
 | p :: qs, h => by
  have h1 := h p (List.mem_cons_self ..)
  have h2 := sz_small qs (fun r hr => h r (List.mem_cons_of_mem _ hr))
  have h3 := h1.n
  have h4 := h1.t
  simp only [sumG, szP, List.length_cons]
  omega
theorem okP_small {L : Int} {ss : List (List Int)} (h : okP L ss = true) : SmP ss := by
 have h1 := okP_of h
 exact ⟨h1.n, h1.z, by have := h1.t; omega⟩
theorem okH_small {ps : List Pg} (h : okH ps = true) : ∀ p ∈ ps, SmP p.2 := by
 intro p hp
 obtain ⟨i, hi, e⟩ := List.getElem_of_mem hp
 have h1 := (okPg_of ((okH_of h).2 i hi)).1
 rw [List.getD_eq_getElem?_getD, List.getElem?_eq_getElem hi, Option.getD_some, e] at h1
 exact okP_small h1
theorem withH_small {ps : List Pg} {q : Nat} {p : Pg} (h : ∀ r ∈ ps, SmP r.2) (hp : SmP p.2) : ∀ r ∈ withH ps q p, SmP r.2 := by
 intro r hr
 rcases List.mem_or_eq_of_mem_set hr with h1 | rfl
 · rcases List.mem_append.1 h1 with h2 | h2
   · exact h r h2
   · rw [(List.mem_replicate.1 h2).2]; exact SmP.nil
 · exact hp
end Go.Proofs.YtkfhfjghfadofaaGreat
