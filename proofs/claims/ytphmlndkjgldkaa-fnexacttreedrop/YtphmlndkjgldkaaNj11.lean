/- Linked nodes as they stand, and behind one leaf's list changed. No statement of its own; no conditions. -/
import Derived.Test.YtphmlndkjgldkaaMgj
namespace Go.Proofs.Ytphmlndkjgldkaa
open Go.RowKit
set_option maxRecDepth 100000
section
variable {tb : List (Option Addr)} {w0 w : World} {ns : List Nd} {lo hi : Nat}
theorem LkT.pos : ∀ (f : Nat) (x : Int) (g : Nat), LkT tb w0 w ns lo hi f x g → ∀ y ∈ posL ns f x, ∃ f' g', LkT tb w0 w ns lo hi (f' + 1) y g'
 | 0, _, _, h, _, _ => h.elim
 | f + 1, x, g, h, y, hy => by
  rcases pos_kid hy with e | ⟨i, hi', hy'⟩
  · exact ⟨f, g, e ▸ h⟩
  · obtain ⟨_, _, _, _, _, _, _, gs, _, _, _, hl, _, hk⟩ := h
    exact LkT.pos f _ _ (hk i (by omega)) y hy'
theorem LkT.told {f : Nat} {x : Int} {g : Nat} (h : LkT tb w0 w ns lo hi (f + 1) x g) : tb.getD x.toNat none = some ⟨g, 0, none⟩ ∧ lo ≤ g ∧ g < hi ∧ formOk (ns.getD x.toNat nd0) = true := by
 obtain ⟨h0, h1, h2, h3, _⟩ := h
 exact ⟨h0, h1, h2, h3⟩
theorem LkT.num : ∀ {f : Nat} {x : Int} {g : Nat}, LkT tb w0 w ns lo hi f x g → ∃ l y z, w.heap[g]? = some (.cells #[.int .i64 x, l, y, z] 86)
 | 0, _, _, h => h.elim
 | _ + 1, _, _, h => by
  obtain ⟨_, _, _, _, a, c, kv, gs, _, e, _⟩ := h
  exact ⟨_, _, _, e⟩
theorem cell_set2 {g b : Nat} {v : Value} {x l y z : Value} (h : w.heap[b]? = some (.cells #[x, l, y, z] 86)) : (w.setCell ⟨g, 2, none⟩ v).cell? ⟨b, 0, none⟩ = some x := by
 by_cases e : b = g
 · subst e
   rw [cell_of_row _ _ _ _ _ _ (heap_setCell_same w b 2 _ 86 v h)]
   rfl
 · rw [World.cell?_of_block (w := w) (a := ⟨b, 0, none⟩) (heap_set_ne w g 2 b v e), cell_of_row _ _ _ _ _ _ h]
   rfl
theorem LkT.node {f : Nat} {x : Int} {g : Nat} (h : LkT tb w0 w ns lo hi (f + 1) x g) (hw : Below w0.heap.size w0 w) : NodeR w g x (ns.getD x.toNat nd0) := by
 obtain ⟨_, _, _, _, a, c, kv, gs, _, e, re, hl, hk, hs⟩ := h
 obtain ⟨ka, kc, hkv⟩ := own_sl hk.own
 subst hkv
 refine ⟨a, c, ka, kc, gs, e, re.below hw (Nat.le_refl _), hl, ?_, fun i hi => ?_⟩
 · by_cases h0 : gs.length = 0
   · exact .inl h0
   · obtain ⟨kb, kc', e', _, _, hc⟩ := hk.at (by omega)
     cases e'
     exact .inr ⟨kb, rfl, hc⟩
 · obtain ⟨l, y, z, en⟩ := LkT.num (hs i hi)
   rw [cell_of_row _ _ _ _ _ _ en]; rfl
theorem LkT.node_set {f : Nat} {x : Int} {g q : Nat} {v : Value} {cs : Array Value} {fz : Nat × Nat} (h : LkT tb w0 w ns lo hi (f + 1) x g) (hw : Below w0.heap.size w0 (w.setCell ⟨q, 2, none⟩ v)) (hq : w.heap[q]? = some (.cells cs 86 fz)) (hne : g ≠ q) : NodeR (w.setCell ⟨q, 2, none⟩ v) g x (ns.getD x.toNat nd0) := by
 obtain ⟨_, _, _, _, a, c, kv, gs, _, e, re, hl, hk, hs⟩ := h
 have ho := hk.own
 obtain ⟨ka, kc, hkv⟩ := own_sl ho
 subst hkv
 refine ⟨a, c, ka, kc, gs, (heap_set_ne w q 2 g v hne).trans e, re.below hw (Nat.le_refl _), hl, ?_, fun i hi => ?_⟩
 · by_cases h0 : gs.length = 0
   · exact .inl h0
   · obtain ⟨kb, kc', e', _, _, hc⟩ := hk.at (by omega)
     cases e'
     refine .inr ⟨kb, rfl, fun i hi => ?_⟩
     have hkb : kb ≠ q := fun e2 => by
      subst e2
      rcases ho.2 with ⟨e3, _⟩ | ⟨g', cp, cu, e3, _, hh, _⟩
      · cases e3
      · cases e3
        rw [hh] at hq
        simp only [Option.some.injEq, Obj.cells.injEq] at hq
        exact absurd hq.2.1 (by decide)
     exact (World.cell?_of_block (w := w) (a := ⟨kb, i, none⟩) (heap_set_ne w q 2 kb v hkb)).trans (hc i hi)
 · obtain ⟨l, y, z, en⟩ := LkT.num (hs i hi)
   exact cell_set2 en
theorem LkT.leaf_set {f : Nat} {x : Int} {g n' : Nat} {a' : Option Addr} {c' : Nat} {es' : List En} (h : LkT tb w0 w ns lo hi (f + 1) x g) (hlf : (ns.getD x.toNat nd0).leaf = true) (hn : es'.length = n') (hr : ReadsE (w.setCell ⟨g, 2, none⟩ (.slice a' n' c')) a' es') : NodeR (w.setCell ⟨g, 2, none⟩ (.slice a' n' c')) g x ⟨true, es', (ns.getD x.toNat nd0).ks⟩ := by
 obtain ⟨_, _, _, hf, a, c, kv, gs, _, e, re, hl, hk, hs⟩ := h
 obtain ⟨ka, kc, hkv⟩ := own_sl hk.own
 subst hkv
 have h0 := (form_leaf hf hlf).2
 refine ⟨a', c', ka, kc, gs, ?_, hr, hl, .inl (by omega), fun i hi => by omega⟩
 rw [heap_setCell_same _ _ _ _ _ _ e, hlf]
 dsimp only
 rw [hn]
 rfl
end
theorem tab_of {tb : List (Option Addr)} {w0 w w' : World} {ns : List Nd} {lo hi r N g : Nat} {root : Int} {sd : List Bool} {ds : List Nd} (ht : treeIs ns root = true) (hl : ns.length = N) (hr : NRowP w' r N sd tb) (hk : LkT tb w0 w ns lo hi (N + 1) root g) (hn : ∀ (i : Nat) (f gi : Nat), i < N → LkT tb w0 w ns lo hi (f + 1) i gi → NodeR w' gi i (ds.getD i nd0)) : TabR w' r N ds := by
 have hp := (treeIs_parts ht).2.2
 rw [hl] at hp
 have key : ∀ i, i < N → ∃ f gi, LkT tb w0 w ns lo hi (f + 1) (i : Int) gi := fun i hi => LkT.pos _ _ _ hk _ (hp i hi)
 have hg : ∀ i gi, i < N → tb.getD i none = some ⟨gi, 0, none⟩ → ((List.range N).map (fun i => ((tb.getD i none).getD ⟨0, 0, none⟩).block)).getD i 0 = gi := fun i gi hi e => by
  have e2 : ((List.range N).map (fun i => ((tb.getD i none).getD ⟨0, 0, none⟩).block)).getD i 0 = ((tb.getD i none).getD ⟨0, 0, none⟩).block := by simp [List.getD, hi]
  rw [e2, e]; rfl
 refine ⟨(List.range N).map (fun i => ((tb.getD i none).getD ⟨0, 0, none⟩).block), fun i hi => ?_, fun i hi => ?_⟩
 · obtain ⟨f, gi, h⟩ := key i hi
   have h0 := h.told.1
   rw [Int.toNat_natCast] at h0
   obtain ⟨o, c1, _, c3⟩ := hr.at hi
   rw [hg i gi hi h0, c1, ← c3, h0]
 · obtain ⟨f, gi, h⟩ := key i hi
   have h0 := h.told.1
   rw [Int.toNat_natCast] at h0
   rw [hg i gi hi h0]
   exact hn i f gi hi h
end Go.Proofs.Ytphmlndkjgldkaa
