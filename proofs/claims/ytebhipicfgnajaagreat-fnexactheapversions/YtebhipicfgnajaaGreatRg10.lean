/- A loop over an iterator whose elements have memory of their own. No statement of its own; the body goes on always. -/
import Derived.RangeFuncNested
import Derived.RangeFuncBound
import Derived.RangeFuncCalls
import Derived.RangeFuncLeaves
import Derived.RangeFuncBox
import Derived.Shelf.Abstract
import Derived.WalkKit
import Derived.OwnWalkIn
import Derived.TacticsInMore
import Derived.LoopNIn
import Derived.LoopIn
namespace Go.Proofs.YtebhipicfgnajaaGreat
open Go.RowKit Go.Shelf

/-- What lay as cells, and what lay ahead of B, lies as it lay. -/
structure Calm (B : Nat) (W W' : World) : Prop where
  os : W'.os = W.os
  tape : W'.tape = W.tape
  output : W'.output = W.output
  size : W.heap.size ≤ W'.heap.size
  same : ∀ (k : Nat) (o : Obj), W.heap[k]? = some o → (o.isCells = true ∨ k < B) → W'.heap[k]? = some o
theorem Calm.refl (B : Nat) (W : World) : Calm B W W := ⟨rfl, rfl, rfl, Nat.le_refl _, fun _ _ h _ => h⟩
theorem Calm.trans {B : Nat} {X Y Z : World} (h : Calm B X Y) (k : Calm B Y Z) : Calm B X Z :=
  ⟨k.os.trans h.os, k.tape.trans h.tape, k.output.trans h.output, Nat.le_trans h.size k.size, fun i o hi ho => k.same i o (h.same i o hi ho) ho⟩
theorem Calm.of_below {B : Nat} {W W' : World} (h : Below W.heap.size W W') : Calm B W W' :=
  ⟨h.os, h.tape, h.output, h.size, fun k _ hk _ => (h.block k (Array.getElem?_eq_some_iff.1 hk).1).trans hk⟩
theorem Calm.putObj {B l : Nat} {W : World} {o : Obj} (o' : Obj) (hB : B ≤ l) (hl : W.heap[l]? = some o) (ho : o.isCells = false) : Calm B W (W.putObj l o') :=
  ⟨rfl, rfl, rfl, by simp, fun k o2 hk h2 => by
    have hne : k ≠ l := by
      rintro rfl
      rw [hl] at hk
      obtain rfl := Option.some.inj hk
      rcases h2 with h2 | h2
      · rw [ho] at h2; cases h2
      · omega
    exact (World.putObj_heap_other hne).trans hk⟩
theorem Calm.below {B : Nat} {W W' : World} (h : Calm B W W') (hB : B ≤ W.heap.size) : Below B W W' :=
  ⟨h.os, h.tape, h.output, h.size, fun k hk => by
    have hlt : k < W.heap.size := by omega
    rw [h.same k _ (Array.getElem?_eq_getElem hlt) (.inr hk), Array.getElem?_eq_getElem hlt]⟩
theorem Calm.cells {B g : Nat} {W W' : World} {c : Array Value} {t : TypeId} {p : Nat × Nat} (h : Calm B W W') (hg : W.heap[g]? = some (.cells c t p)) : W'.heap[g]? = some (.cells c t p) := h.same _ _ hg (.inl rfl)
theorem Calm.boxed {B b : Nat} {W W' : World} {t : TypeId} {v : Value} (h : Calm B W W') (hb : Boxed W b t v) : Boxed W' b t v := h.same _ _ hb (.inl rfl)

variable {F : Fence} {n : Nat} {P : Program}

theorem range_calm {β : Type} {g : Operand} {ps : Array Tmp} {assign body : Code} {Q : Exit → Act → World → Prop} {a : Act} {w : World}
    (hro : F.round = none) (h1 : 1 ≤ n) {gf : Nat} {lb : Array Value} (hg : a.eval g = .func (.func gf) #[] lb) (hFg : F.fn gf) (eg : ∀ args w, (callFunc gf args).run P w = .ok (.enter gf args) w)
    (X : β → Array Value → World → World → Prop) (hX : ∀ x v W W', X x v W W' → v.size = ps.size)
    (I : List β → World → Prop) (hI : ∀ s W W', I s W → Calm w.heap.size W W' → I s W') (h0 : I [] w) (S : List β → Prop) (N : Nat) (G : World → Prop) (hG : ∀ s W, I s W → G W)
    (hseq : ∀ (l : Nat) (J : List β → World → Prop) (W : World), (∀ s W, J s W → G W) → (∀ s W W', J s W → Below W.heap.size W W' → J s W') →
      (∀ pre x v W0 W1, J pre W0 → pre.length < N → Below W0.heap.size W0 W1 → X x v W0 W1 → YieldAt F (n - 1 - 1) P l v W1 fun e W' => e = .returned (.bool true) ∧ J (pre ++ [x]) W') →
      J [] W → CallsIn F (n - 1) P gf (#[.func (.yield l) #[] #[]] ++ lb) W fun e W' => (∃ v, e = .returned v) ∧ ∃ xs, S xs ∧ J xs W')
    (A : β → World → Act → World → Prop) (hA : ∀ x W0 a' W W', A x W0 a' W → Calm w.heap.size W W' → A x W0 a' W')
    (hassign : ∀ (l : Nat) (x : β) (v : Array Value) (W0 W : World) (K : Act → World → Prop), Below W0.heap.size W0 W → X x v W0 W → (∀ a' Wa, Below W.heap.size W Wa → A x W0 a' Wa → K a' Wa) →
      assign.wpIn (F.inRound l) (n - 1 - 1) P (Exit.then K (fun _ _ _ => False)) { tmps := (ps.zip v).foldl (fun t (p, v) => t.setIfInBounds p v) a.tmps, defers := [] } W)
    (hbody : ∀ (l : Nat) (pre : List β) (x : β) (W0 : World) (a' : Act) (W : World), I pre W0 → pre.length < N → Calm w.heap.size W0 W → A x W0 a' W →
      body.wpIn (F.inRound l) (n - 1 - 1) P (fun e _ W' => e = .normal ∧ KeepsFrom w.heap.size W W' ∧ I (pre ++ [x]) W') a' W)
    (hdone : ∀ (D : Nat) (xs : List β) (W : World), w.heap.size ≤ D → S xs → I xs W → W.heap[D]? = some (.deferred (some [])) → Q .normal { a with defers := { target := .collected D, args := #[] } :: a.defers } W) :
    (Code.rangeFunc g ps assign body).wpIn F n P Q a w := by
  refine wpIn_rangeFunc (fun fn hfn => ?_)
  rw [hro]
  obtain ⟨r, hr⟩ : ∃ r : LoopState → Loop, r = fun st => { state := st, pending := none, fn, tmps := a.tmps, params := ps, assign, body, defers := w.heap.size } := ⟨_, rfl⟩
  have hb1 : Below w.heap.size w ((w.alloc (.deferred (some []))).alloc (.loop (r .ready))) := ((Below.refl _ w).alloc (Nat.le_refl _) _).alloc (by simp) _
  refine ⟨w.heap.size + 1, [{ target := .collected w.heap.size, args := #[] }], (w.alloc (.deferred (some []))).alloc (.loop (r .ready)), { target := .fn (.func gf) lb, args := #[.func (.yield (w.heap.size + 1)) #[] #[]] }, (w.alloc (.deferred (some []))).alloc (.loop (r .ready)), gf,
    #[.func (.yield (w.heap.size + 1)) #[] #[]] ++ lb, (w.alloc (.deferred (some []))).alloc (.loop (r .ready)), ?enter, ?res, ?leads, ?inv, fun _ => h1, ?call⟩
  case enter => rw [hr]; exact run_enterLoop_outer _ _ _ _ _
  case res => simp only [resolve, hg]; simp [go_sem]
  case leads => intro f' hf'; simp [Target.leads] at hf'; subst hf'; exact hFg
  case inv => simp [invoke, go_sem, eg]
  case call =>
    have hL : ((w.alloc (.deferred (some []))).alloc (.loop (r .ready))).heap[w.heap.size + 1]? = some (.loop (r .ready)) := by
      have := World.alloc_heap_new (w.alloc (.deferred (some []))) (.loop (r .ready)); rwa [World.size_alloc] at this
    have hD : ((w.alloc (.deferred (some []))).alloc (.loop (r .ready))).heap[w.heap.size]? = some (.deferred (some [])) := (Below.heap_alloc _ _ _ (by simp)).trans (World.alloc_heap_new w _)
    refine (hseq (w.heap.size + 1) (fun pre W => I pre W ∧ W.heap[w.heap.size + 1]? = some (.loop (r .ready)) ∧ W.heap[w.heap.size]? = some (.deferred (some []))) _ (fun s W h => hG s W h.1) ?closed ?round ⟨hI _ _ _ h0 (Calm.of_below hb1), hL, hD⟩).mono ?out
    case closed =>
      rintro s W W' ⟨hi, hl, hd⟩ b
      exact ⟨hI _ _ _ hi (Calm.of_below b), (b.block _ (Array.getElem?_eq_some_iff.1 hl).1).trans hl, (b.block _ (Array.getElem?_eq_some_iff.1 hd).1).trans hd⟩
    case round =>
      rintro pre x v W0 W1 ⟨hi, hl, hd⟩ hN b hx
      have hl1 := (b.block _ (Array.getElem?_eq_some_iff.1 hl).1).trans hl
      have hd1 := (b.block _ (Array.getElem?_eq_some_iff.1 hd).1).trans hd
      have hy := run_yield (P := P) (args := v) hl1 (by rw [hr]; exact hX _ _ _ _ hx)
      rw [hr] at hy
      refine ⟨fn, _, assign, body, hy, roundIn_of_wpIn hfn (hassign _ x v W0 W1 _ b hx ?_)⟩
      intro a' Wa ba hax
      have hl2 := (ba.block _ (Array.getElem?_eq_some_iff.1 hl1).1).trans hl1
      have hd2 := (ba.block _ (Array.getElem?_eq_some_iff.1 hd1).1).trans hd1
      have hlt := (Array.getElem?_eq_some_iff.1 hl2).1
      have c3 : Calm w.heap.size Wa (Wa.putObj (w.heap.size + 1) (.loop (r .busy))) := Calm.putObj _ (by omega) hl2 rfl
      have e3 : (Wa.putObj (w.heap.size + 1) (.loop (r .busy))).heap[w.heap.size + 1]? = some (.loop (r .busy)) := World.putObj_heap_same hlt
      have d3 : (Wa.putObj (w.heap.size + 1) (.loop (r .busy))).heap[w.heap.size]? = some (.deferred (some [])) := (World.putObj_heap_other (by omega)).trans hd2
      refine ⟨Wa.putObj (w.heap.size + 1) (.loop (r .busy)), ?_, ?_⟩
      · have := run_beginRound (P := P) hl2 (by rw [hr])
        rw [hr] at this ⊢
        exact this
      · refine wpIn_mono (hbody _ pre x W0 a' _ hi hN ((Calm.of_below b).trans ((Calm.of_below ba).trans c3)) (hA _ _ _ _ _ hax c3)) ?_
        rintro e a3 W3 ⟨rfl, hk3, hi3⟩
        have e4 := hk3.same _ _ (by omega) e3 rfl
        have d4 := hk3.same _ _ (Nat.le_refl _) d3 rfl
        have h4 := run_endRound (P := P) none e4
        refine ⟨_, _, h4, rfl, hI _ _ _ hi3 (Calm.putObj _ (by omega) e4 rfl), ?_, (World.putObj_heap_other (by omega)).trans d4⟩
        rw [hr]
        exact World.putObj_heap_same (Array.getElem?_eq_some_iff.1 e4).1
    case out =>
      rintro e W2 ⟨⟨v, rfl⟩, xs, hS, hi, hl, hd⟩
      refine ⟨none, W2.putObj (w.heap.size + 1) (.loop (r .exhausted)), ?_, hdone _ xs _ (Nat.le_refl _) hS (hI _ _ _ hi (Calm.putObj (.loop (r .exhausted)) (by omega) hl rfl)) ((World.putObj_heap_other (by omega)).trans hd)⟩
      have := run_endLoop (P := P) hl (by rw [hr]; simp)
      rw [hr] at this ⊢
      exact this
end Go.Proofs.YtebhipicfgnajaaGreat
