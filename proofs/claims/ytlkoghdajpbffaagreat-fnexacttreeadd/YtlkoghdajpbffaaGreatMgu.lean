/- Texts of this proof in one: Rg11 Ub11 Ua11. -/
import Derived.Test.YtlkoghdajpbffaaGreatMga
import Derived.RangeFuncNested
import Derived.RangeFuncBound
import Derived.RangeFuncCalls
import Derived.RangeFuncLeaves
import Derived.RangeFuncBox
import Derived.Shelf.Abstract
import Derived.WalkKit
import Derived.OwnWalkIn
import Derived.TacticsInMore
import Derived.LoopNIn
import Derived.LoopIn
import Derived.Test.YtlkoghdajpbffaaGreatMgp
import Derived.Test.YtlkoghdajpbffaaGreatMgo
import Derived.Test.YtlkoghdajpbffaaGreatMgm
import Derived.Test.YtlkoghdajpbffaaGreatKf11
/- A loop over an iterator whose rounds are told by their number, and that may return. No statement of its own. -/












namespace Go.Proofs.YtlkoghdajpbffaaGreat
open Go.RowKit Go.Shelf
structure Calm (B : Nat) (W W' : World) : Prop where
 os : W'.os = W.os
 tape : W'.tape = W.tape
 output : W'.output = W.output
 size : W.heap.size ≤ W'.heap.size
 same : ∀ (k : Nat) (o : Obj), W.heap[k]? = some o → (o.isCells = true ∨ k < B) → W'.heap[k]? = some o
theorem Calm.trans {B : Nat} {X Y Z : World} (h : Calm B X Y) (k : Calm B Y Z) : Calm B X Z :=
 ⟨k.os.trans h.os, k.tape.trans h.tape, k.output.trans h.output, Nat.le_trans h.size k.size, fun i o hi ho => k.same i o (h.same i o hi ho) ho⟩
theorem Calm.of_below {B : Nat} {W W' : World} (h : Below W.heap.size W W') : Calm B W W' :=
 ⟨h.os, h.tape, h.output, h.size, fun k _ hk _ => (h.block k (qL hk)).trans hk⟩
theorem Calm.putObj {B l : Nat} {W : World} {o : Obj} (o' : Obj) (hB : B ≤ l) (hl : W.heap[l]? = some o) (ho : o.isCells = false) : Calm B W (W.putObj l o') :=
 ⟨rfl, rfl, rfl, by simp, fun k o2 hk h2 => by
  have hne : k ≠ l := by
   rintro rfl
   rw [hl] at hk
   obtain rfl := Option.some.inj hk
   rcases h2 with h2 | h2
   · rw [ho] at h2; cases h2
   · omega
  exact (World.putObj_heap_other hne).trans hk⟩
theorem Calm.cells {B g : Nat} {W W' : World} {c : Array Value} {t : TypeId} {p : Nat × Nat} (h : Calm B W W') (hg : W.heap[g]? = some (.cells c t p)) : W'.heap[g]? = some (.cells c t p) := h.same _ _ hg (.inl rfl)
variable {F : Fence} {n : Nat} {P : Program}
theorem range_stop {g : Operand} {ps : Array Tmp} {assign body : Code} {Q : Exit → Act → World → Prop} {a : Act} {w : World}
 (hro : F.round = none) (h1 : 1 ≤ n) {gf : Nat} {lb : Array Value} (hg : a.eval g = .func (.func gf) #[] lb) (hFg : F.fn gf) (eg : ∀ args w, (callFunc gf args).run P w = .ok (.enter gf args) w)
 (v : Nat → Array Value) (hv : ∀ j, (v j).size = ps.size) (N : Nat)
 (I : Nat → World → Prop) (Ix : World → Prop) (hI : ∀ j W W', I j W → Calm w.heap.size W W' → I j W') (hIx : ∀ W W', Ix W → Calm w.heap.size W W' → Ix W') (h0 : I 0 w)
 (hseq : ∀ (l : Nat) (J : Nat → World → Prop) (Jx : World → Prop) (W : World), (∀ j W, J j W → I j W) →
  (∀ j W1, J j W1 → j < N → YieldAt F (n - 1 - 1) P l (v j) W1 fun e W' => (e = .returned (.bool true) ∧ J (j + 1) W') ∨ (e = .returned (.bool false) ∧ Jx W')) →
  J 0 W → CallsIn F (n - 1) P gf (#[.func (.yield l) #[] #[]] ++ lb) W fun e W' => (∃ v, e = .returned v) ∧ (J N W' ∨ Jx W'))
 (A : Nat → Act → World → Prop) (hA : ∀ j a' W W', A j a' W → Calm w.heap.size W W' → A j a' W')
 (hassign : ∀ (l j : Nat) (W : World) (K : Act → World → Prop), I j W → j < N → (∀ a' Wa, Below W.heap.size W Wa → A j a' Wa → K a' Wa) →
  assign.wpIn (F.inRound l) (n - 1 - 1) P (Exit.then K (fun _ _ _ => False)) { tmps := (ps.zip (v j)).foldl (fun t (p, v) => t.setIfInBounds p v) a.tmps, defers := [] } W)
 (hbody : ∀ (l j : Nat) (a' : Act) (W : World), I j W → j < N → A j a' W →
  body.wpIn (F.inRound l) (n - 1 - 1) P (fun e _ W' => KeepsFrom w.heap.size W W' ∧ ((e = .normal ∧ I (j + 1) W') ∨ (e = .ret ∧ Ix W'))) a' W)
 (hdone : ∀ (D : Nat) (W : World), w.heap.size ≤ D → I N W → W.heap[D]? = some (.deferred (some [])) → Q .normal { a with defers := { target := .collected D, args := #[] } :: a.defers } W)
 (hstop : ∀ (D : Nat) (W : World), w.heap.size ≤ D → Ix W → W.heap[D]? = some (.deferred (some [])) → Code.ret.wpIn F n P Q { a with defers := { target := .collected D, args := #[] } :: a.defers } W) :
 (Code.rangeFunc g ps assign body).wpIn F n P Q a w := by
 refine wpIn_rangeFunc (fun fn hfn => ?_)
 rw [hro]
 obtain ⟨r, hr⟩ : ∃ r : LoopState → Option Code → Loop, r = fun st pe => { state := st, pending := pe, fn, tmps := a.tmps, params := ps, assign, body, defers := w.heap.size } := ⟨_, rfl⟩
 have hb1 : Below w.heap.size w ((w.alloc (.deferred (some []))).alloc (.loop (r .ready none))) := ((Below.refl _ w).alloc qN _).alloc (by simp) _
 refine ⟨w.heap.size + 1, [{ target := .collected w.heap.size, args := #[] }], (w.alloc (.deferred (some []))).alloc (.loop (r .ready none)), { target := .fn (.func gf) lb, args := #[.func (.yield (w.heap.size + 1)) #[] #[]] }, (w.alloc (.deferred (some []))).alloc (.loop (r .ready none)), gf,
  #[.func (.yield (w.heap.size + 1)) #[] #[]] ++ lb, (w.alloc (.deferred (some []))).alloc (.loop (r .ready none)), ?enter, ?res, ?leads, ?inv, fun _ => h1, ?call⟩
 case enter => rw [hr]; exact run_enterLoop_outer _ _ _ _ _
 case res => simp only [resolve, hg]; simp [go_sem]
 case leads => intro f' hf'; simp [Target.leads] at hf'; subst hf'; exact hFg
 case inv => simp [invoke, go_sem, eg]
 case call =>
  have hL : ((w.alloc (.deferred (some []))).alloc (.loop (r .ready none))).heap[w.heap.size + 1]? = some (.loop (r .ready none)) := by
   have := World.alloc_heap_new (w.alloc (.deferred (some []))) (.loop (r .ready none)); rwa [World.size_alloc] at this
  have hD : ((w.alloc (.deferred (some []))).alloc (.loop (r .ready none))).heap[w.heap.size]? = some (.deferred (some [])) := (Below.heap_alloc _ _ _ (by simp)).trans (World.alloc_heap_new w _)
  refine (hseq (w.heap.size + 1) (fun j W => I j W ∧ W.heap[w.heap.size + 1]? = some (.loop (r .ready none)) ∧ W.heap[w.heap.size]? = some (.deferred (some [])))
   (fun W => Ix W ∧ W.heap[w.heap.size + 1]? = some (.loop (r .done (some .ret))) ∧ W.heap[w.heap.size]? = some (.deferred (some []))) _ (fun j W h => h.1) ?round ⟨hI _ _ _ h0 (Calm.of_below hb1), hL, hD⟩).mono ?out
  case round =>
   rintro j W1 ⟨hi, hl1, hd1⟩ hN
   have hy := run_yield (P := P) (args := v j) hl1 (by rw [hr]; exact hv j)
   rw [hr] at hy
   refine ⟨fn, _, assign, body, hy, roundIn_of_wpIn hfn (hassign _ j W1 _ hi hN ?_)⟩
   intro a' Wa ba hax
   have hl2 := (ba.block _ (qL hl1)).trans hl1
   have hd2 := (ba.block _ (qL hd1)).trans hd1
   have hlt := (qL hl2)
   have c3 : Calm w.heap.size Wa (Wa.putObj (w.heap.size + 1) (.loop (r .busy none))) := Calm.putObj _ (by omega) hl2 rfl
   have e3 : (Wa.putObj (w.heap.size + 1) (.loop (r .busy none))).heap[w.heap.size + 1]? = some (.loop (r .busy none)) := World.putObj_heap_same hlt
   have d3 : (Wa.putObj (w.heap.size + 1) (.loop (r .busy none))).heap[w.heap.size]? = some (.deferred (some [])) := (World.putObj_heap_other (by omega)).trans hd2
   refine ⟨Wa.putObj (w.heap.size + 1) (.loop (r .busy none)), ?_, ?_⟩
   · have := run_beginRound (P := P) hl2 (by rw [hr])
     rw [hr] at this ⊢
     exact this
   · refine wpIn_mono (hbody _ j a' _ (hI _ _ _ hi ((Calm.of_below ba).trans c3)) hN (hA _ _ _ _ hax c3)) ?_
     rintro e a3 W3 ⟨hk3, hout⟩
     have e4 := hk3.same _ _ (by omega) e3 rfl
     have d4 := hk3.same _ _ qN d3 rfl
     rcases hout with ⟨rfl, hi3⟩ | ⟨rfl, hi3⟩
     · have h4 := run_endRound (P := P) none e4
       refine ⟨_, _, h4, .inl ⟨rfl, hI _ _ _ hi3 (Calm.putObj _ (by omega) e4 rfl), ?_, (World.putObj_heap_other (by omega)).trans d4⟩⟩
       rw [hr]
       exact World.putObj_heap_same (qL e4)
     · have h4 := run_endRound (P := P) (some .ret) e4
       refine ⟨_, _, h4, .inr ⟨rfl, hIx _ _ hi3 (Calm.putObj _ (by omega) e4 rfl), ?_, (World.putObj_heap_other (by omega)).trans d4⟩⟩
       rw [hr]
       exact World.putObj_heap_same (qL e4)
  case out =>
   rintro e W2 ⟨⟨v, rfl⟩, ⟨hi, hl, hd⟩ | ⟨hi, hl, hd⟩⟩
   · refine ⟨none, W2.putObj (w.heap.size + 1) (.loop (r .exhausted none)), ?_, hdone _ _ qN (hI _ _ _ hi (Calm.putObj (.loop (r .exhausted none)) (by omega) hl rfl)) ((World.putObj_heap_other (by omega)).trans hd)⟩
     have := run_endLoop (P := P) hl (by rw [hr]; simp)
     rw [hr] at this ⊢
     exact this
   · refine ⟨some .ret, W2.putObj (w.heap.size + 1) (.loop (r .exhausted (some .ret))), ?_, hstop _ _ qN (hIx _ _ hi (Calm.putObj (.loop (r .exhausted (some .ret))) (by omega) hl rfl)) ((World.putObj_heap_other (by omega)).trans hd)⟩
     have := run_endLoop (P := P) hl (by rw [hr]; simp)
     rw [hr] at this ⊢
     exact this
end Go.Proofs.YtlkoghdajpbffaaGreat
/- The library's Concat of three lists, over entries and over nodes. Conditions: at most five each. -/

namespace Go.Proofs.YtlkoghdajpbffaaGreat
open Go.RowKit
set_option maxRecDepth 100000
def Pt (w : World) (st : Nat) (a : Option Addr) (n c : Nat) (L : List Value) : Prop := L.length = n * st ∧ ((a = none ∧ c = 0) ∨ ∃ p, a = some p ∧ ∀ j u, L[j]? = some u → w.cell? (p.add j) = some u) ∧ (a = none → n = 0)
theorem Pt.below {w w' : World} {st : Nat} {a : Option Addr} {n c : Nat} {L : List Value} (h : Pt w st a n c L) (hb : Below w.heap.size w w') : Pt w' st a n c L := by
 refine ⟨h.1, ?_, h.2.2⟩
 rcases h.2.1 with e | ⟨p, e, hc⟩
 · exact .inl e
 · exact .inr ⟨p, e, fun j u hu => (hb.cell (World.block_lt_of_cell? w _ (hc j u hu))).trans (hc j u hu)⟩
theorem owns_zerosP11 (w : World) (n : Nat) (hn : n ≤ 2097152) : ((w.alloc (.cells (Builtin.zeroCells (Value.pointer none).cells n ++ Builtin.zeroCells (Value.pointer none).cells (grownCap w n 0 70 - n)) 70)).drew).ownsRow w.heap.size 70 1 (.slice (some ⟨w.heap.size, 0, none⟩) 0 (grownCap w n 0 70)) 0 [] := by
 have hge := grownCap_ge w n 0 70
 have hcm : grownCap w n 0 70 ≤ maxLen := grownCap_le_maxLen w n 0 70 (by unfold maxLen; omega)
 refine ⟨rfl, .inr ⟨w.heap.size, _, _, rfl, Nat.le_refl _, heap_alloc_new w _, Nat.zero_le _, hcm, ?_, ?_⟩⟩
 · rw [Array.size_append, size_zeroCells, size_zeroCells]
   rw [show (Value.pointer none).cells.size = 1 from rfl]
   omega
 · simp
set_option maxHeartbeats 1600000 in
theorem grow_ptrs_pos (n : Nat) (h0 : 0 < n) (hn : n ≤ 2097152) (w : World) :
 Calls Tryz.prog 110 #[.slice none 0 0, .int .i64 n] w fun e w' => ∃ v, e = .returned v ∧ w'.ownsRow w.heap.size 70 1 v 0 [] ∧ Below w.heap.size w w' := by
 obtain ⟨i0, hi, hz0, hz1, hz2⟩ := info_parts Tryz.infoPn
 have hr := Go.Lib.run_append_nil_zeros (P := Tryz.prog) w 75 3 75 70 i0 (.pointer none) .i64 .i64 Tryz.underlying75 Tryz.underlying3 hi hz0 n h0 (by omega) (by omega) (by rw [hz2]; omega)
 have a1 : (0 : Int) < (n : Int) := by omega
 have a2 : ¬ (n : Int) < 0 := by omega
 have a3 : (n : Int) ≤ 2097152 := by omega
 have HO := hid (owns_zerosP11 w n hn)
 go_enter Tryz.func110, Tryz.ntmps110
 go_wp2_with (at_builtin; refine Go.Lib.wpList_append_run _ rfl _ _ _ _ rfl _ _ rfl rfl _ _ hr ?_)
 go_ret
 exact ⟨_, rfl, HO.out, (Below.alloc1 w _).trans ((Still.drew _).below _)⟩
theorem grow_ptrs (n : Nat) (hn : n ≤ 2097152) (w : World) :
 Calls Tryz.prog 110 #[.slice none 0 0, .int .i64 n] w fun e w' => ∃ v, e = .returned v ∧ w'.ownsRow w.heap.size 70 1 v 0 [] ∧ Below w.heap.size w w' := by
 by_cases h0 : 0 < n
 · exact grow_ptrs_pos n h0 hn w
 · obtain rfl : n = 0 := by omega
   go_enter Tryz.func110, Tryz.ntmps110
   go_wp2_with fail
   go_ret
   exact ⟨_, rfl, World.ownsRow_nil _ _ _ _, Below.refl _ _⟩
set_option maxHeartbeats 3200000 in
theorem concat3_E (G : Nat) {a1 a2 a3 : Option Addr} {n1 n2 n3 c1 c2 c3 : Nat} {L1 L2 L3 : List Value} {w : World} (o1 : Pt w 5 a1 n1 c1 L1) (o2 : Pt w 5 a2 n2 c2 L2) (o3 : Pt w 5 a3 n3 c3 L3) (h1c : ∀ u ∈ L1, u.oneCell' = true) (h2c : ∀ u ∈ L2, u.oneCell' = true) (h3c : ∀ u ∈ L3, u.oneCell' = true) (hn1 : n1 ≤ 5) (hn2 : n2 ≤ 5) (hn3 : n3 ≤ 5)
 (d1 : w.cell? ⟨G, 0, none⟩ = some (.slice a1 n1 c1)) (d2 : w.cell? ⟨G, 1, none⟩ = some (.slice a2 n2 c2)) (d3 : w.cell? ⟨G, 2, none⟩ = some (.slice a3 n3 c3)) :
 Calls Tryz.prog 102 #[.slice (some ⟨G, 0, none⟩) 3 3] w fun e w' => ∃ a' c', e = .returned (.slice a' (n1 + n2 + n3) c') ∧ w'.ownsRow w.heap.size 48 5 (.slice a' (n1 + n2 + n3) c') (n1 + n2 + n3) (L1 ++ L2 ++ L3) ∧ Below w.heap.size w w' := by
 obtain ⟨i0, hi, hz0, hz1, hz2⟩ := info_parts Tryz.infoEn
 have HG := hid (World.block_lt_of_cell? w _ d1)
 have HO1 := hid o1
 have HO2 := hid o2
 have HO3 := hid o3
 have H1c := hid h1c
 have H2c := hid h2c
 have H3c := hid h3c
 have D1 := hid d1
 have D2 := hid d2
 have D3 := hid d3
 have i1 : (0 : Int) ≤ (n1 : Int) := by omega
 have i2 : (0 : Int) ≤ (n2 : Int) := by omega
 have i3 : (n1 : Int) ≤ 5 := by omega
 have i4 : (n2 : Int) ≤ 5 := by omega
 have i6 : (0 : Int) ≤ (n3 : Int) := by omega
 have i7 : (n3 : Int) ≤ 5 := by omega
 clear o1 o2 o3 h1c h2c h3c
 go_enter Tryz.func102, Tryz.ntmps102
 go_wp2
 go_loopw [3, 11] (fun s i wr => wr = w ∧ ((i = .int .i64 0 ∧ s = .int .i64 0) ∨ (i = .int .i64 1 ∧ s = .int .i64 n1) ∨ (i = .int .i64 2 ∧ s = .int .i64 ((n1 : Int) + n2)) ∨ (i = .int .i64 3 ∧ s = .int .i64 ((n1 : Int) + n2 + n3)))) (fun _ i _ => 3 - (intOf i).toNat)
 case atStart => exact ⟨rfl, .inl ⟨rfl, rfl⟩⟩
 case round =>
  obtain ⟨rfl, hcase⟩ := hrel
  rcases hcase with ⟨rfl, rfl⟩ | ⟨rfl, rfl⟩ | ⟨rfl, rfl⟩ | ⟨rfl, rfl⟩
  · go_wp2
    go_roundw
    case rel => exact ⟨by first | trivial | rfl, .inr (.inl ⟨by go_num, by go_num⟩)⟩
    case measure => simp [intOf]
  · go_wp2
    go_roundw
    case rel => exact ⟨by first | trivial | rfl, .inr (.inr (.inl ⟨by go_num, by go_num⟩))⟩
    case measure => simp [intOf]
  · go_wp2
    go_roundw
    case rel => exact ⟨by first | trivial | rfl, .inr (.inr (.inr ⟨by go_num, by go_num⟩))⟩
    case measure => simp [intOf]
  · clear d1 d2 d3
    obtain ⟨w0, hw0⟩ : ∃ w0, w0 = wr := ⟨_, rfl⟩
    subst hw0
    rw [show ((n1 : Int) + n2 + n3) = ((n1 + n2 + n3 : Nat) : Int) by omega]
    have i5 : (0 : Int) ≤ ((n1 + n2 + n3 : Nat) : Int) := by omega
    go_wp2_with fail
    refine (grow_ents (n1 + n2 + n3) (by omega) _).mono ?_
    rintro e w1 ⟨v, rfl, o, b⟩
    have O := hid o
    have B := hid b
    clear o b i5
    go_wp2_with fail
    go_loopw [6, 27] (fun v2 i wr => Below w0.heap.size w0 wr ∧ ((i = .int .i64 0 ∧ wr.ownsRow w0.heap.size 48 5 v2 0 []) ∨ (i = .int .i64 1 ∧ wr.ownsRow w0.heap.size 48 5 v2 n1 L1) ∨ (i = .int .i64 2 ∧ wr.ownsRow w0.heap.size 48 5 v2 (n1 + n2) (L1 ++ L2)) ∨ (i = .int .i64 3 ∧ wr.ownsRow w0.heap.size 48 5 v2 (n1 + n2 + n3) (L1 ++ L2 ++ L3)))) (fun _ i _ => 3 - (intOf i).toNat)
    case atStart => exact ⟨B.out, .inl ⟨rfl, O.out⟩⟩
    case round =>
     obtain ⟨bq, hcase⟩ := hrel
     clear O B
     have BQ := hid bq
     have d1 := (bq.cell (p := ⟨G, 0, none⟩) HG.out).trans D1.out
     have d2 := (bq.cell (p := ⟨G, 1, none⟩) HG.out).trans D2.out
     have d3 := (bq.cell (p := ⟨G, 2, none⟩) HG.out).trans D3.out
     have Q1 := hid (HO1.out.below bq)
     have Q2 := hid (HO2.out.below bq)
     have Q3 := hid (HO3.out.below bq)
     clear bq
     rcases hcase with ⟨rfl, o⟩ | ⟨rfl, o⟩ | ⟨rfl, o⟩ | ⟨rfl, o⟩
     · have O := hid o
       clear o d2 d3
       go_wp2_with (at_builtin; refine wpList_append_row rfl _ _ 110 rfl w0.heap.size 48 i0 (.agg #[.int .i64 0, .int .i64 0, .float .f64 0, .slice none 0 0, .int .i64 0]) 5 56 Tryz.underlying110 hi hz0 hz1 hz2 rfl (by decide) _ 0 [] rfl O.out a1 n1 c1 L1 rfl Q1.out.1 Q1.out.2.1 Q1.out.2.2 H1c.out ?kE0a ?kE0b BQ.out.size ?_)
       case kE0a => unfold maxLen; omega
       case kE0b => omega
       intro a' c' w' o' g'
       have B' := hid (BQ.out.grown g' BQ.out.size (fun k hk => (O.out.lt k hk).1))
       have O' := hid (show w'.ownsRow w0.heap.size 48 5 (.slice a' n1 c') n1 L1 by simpa using o')
       clear o' g' O
       go_wp2
       go_roundw
       case rel => exact ⟨B'.out, .inr (.inl ⟨by go_num, O'.out⟩)⟩
       case measure => simp [intOf]
     · have O := hid o
       clear o d1 d3
       go_wp2_with (at_builtin; refine wpList_append_row rfl _ _ 110 rfl w0.heap.size 48 i0 (.agg #[.int .i64 0, .int .i64 0, .float .f64 0, .slice none 0 0, .int .i64 0]) 5 56 Tryz.underlying110 hi hz0 hz1 hz2 rfl (by decide) _ n1 L1 rfl O.out a2 n2 c2 L2 rfl Q2.out.1 Q2.out.2.1 Q2.out.2.2 H2c.out ?kE1a ?kE1b BQ.out.size ?_)
       case kE1a => unfold maxLen; omega
       case kE1b => omega
       intro a' c' w' o' g'
       have B' := hid (BQ.out.grown g' BQ.out.size (fun k hk => (O.out.lt k hk).1))
       have O' := hid o'
       clear o' g' O
       go_wp2
       go_roundw
       case rel => exact ⟨B'.out, .inr (.inr (.inl ⟨by go_num, O'.out⟩))⟩
       case measure => simp [intOf]
     · have O := hid o
       clear o d1 d2
       go_wp2_with (at_builtin; refine wpList_append_row rfl _ _ 110 rfl w0.heap.size 48 i0 (.agg #[.int .i64 0, .int .i64 0, .float .f64 0, .slice none 0 0, .int .i64 0]) 5 56 Tryz.underlying110 hi hz0 hz1 hz2 rfl (by decide) _ (n1 + n2) (L1 ++ L2) rfl O.out a3 n3 c3 L3 rfl Q3.out.1 Q3.out.2.1 Q3.out.2.2 H3c.out ?kE2a ?kE2b BQ.out.size ?_)
       case kE2a => unfold maxLen; omega
       case kE2b => omega
       intro a' c' w' o' g'
       have B' := hid (BQ.out.grown g' BQ.out.size (fun k hk => (O.out.lt k hk).1))
       have O' := hid o'
       clear o' g' O
       go_wp2
       go_roundw
       case rel => exact ⟨B'.out, .inr (.inr (.inr ⟨by go_num, by rw [List.append_assoc]; exact O'.out⟩))⟩
       case measure => simp [intOf]
     · obtain ⟨a', c', e'⟩ := own_sl o
       subst e'
       have O := hid o
       clear o d1 d2 d3
       go_wp2
       go_ret
       exact ⟨_, _, rfl, O.out, BQ.out⟩
set_option maxHeartbeats 3200000 in
theorem concat3_P (G : Nat) {a1 a2 a3 : Option Addr} {n1 n2 n3 c1 c2 c3 : Nat} {L1 L2 L3 : List Value} {w : World} (o1 : Pt w 1 a1 n1 c1 L1) (o2 : Pt w 1 a2 n2 c2 L2) (o3 : Pt w 1 a3 n3 c3 L3) (h1c : ∀ u ∈ L1, u.oneCell' = true) (h2c : ∀ u ∈ L2, u.oneCell' = true) (h3c : ∀ u ∈ L3, u.oneCell' = true) (hn1 : n1 ≤ 5) (hn2 : n2 ≤ 5) (hn3 : n3 ≤ 5)
 (d1 : w.cell? ⟨G, 0, none⟩ = some (.slice a1 n1 c1)) (d2 : w.cell? ⟨G, 1, none⟩ = some (.slice a2 n2 c2)) (d3 : w.cell? ⟨G, 2, none⟩ = some (.slice a3 n3 c3)) :
 Calls Tryz.prog 103 #[.slice (some ⟨G, 0, none⟩) 3 3] w fun e w' => ∃ a' c', e = .returned (.slice a' (n1 + n2 + n3) c') ∧ w'.ownsRow w.heap.size 70 1 (.slice a' (n1 + n2 + n3) c') (n1 + n2 + n3) (L1 ++ L2 ++ L3) ∧ Below w.heap.size w w' := by
 obtain ⟨i0, hi, hz0, hz1, hz2⟩ := info_parts Tryz.infoPn
 have HG := hid (World.block_lt_of_cell? w _ d1)
 have HO1 := hid o1
 have HO2 := hid o2
 have HO3 := hid o3
 have H1c := hid h1c
 have H2c := hid h2c
 have H3c := hid h3c
 have D1 := hid d1
 have D2 := hid d2
 have D3 := hid d3
 have i1 : (0 : Int) ≤ (n1 : Int) := by omega
 have i2 : (0 : Int) ≤ (n2 : Int) := by omega
 have i3 : (n1 : Int) ≤ 5 := by omega
 have i4 : (n2 : Int) ≤ 5 := by omega
 have i6 : (0 : Int) ≤ (n3 : Int) := by omega
 have i7 : (n3 : Int) ≤ 5 := by omega
 clear o1 o2 o3 h1c h2c h3c
 go_enter Tryz.func103, Tryz.ntmps103
 go_wp2
 go_loopw [3, 11] (fun s i wr => wr = w ∧ ((i = .int .i64 0 ∧ s = .int .i64 0) ∨ (i = .int .i64 1 ∧ s = .int .i64 n1) ∨ (i = .int .i64 2 ∧ s = .int .i64 ((n1 : Int) + n2)) ∨ (i = .int .i64 3 ∧ s = .int .i64 ((n1 : Int) + n2 + n3)))) (fun _ i _ => 3 - (intOf i).toNat)
 case atStart => exact ⟨rfl, .inl ⟨rfl, rfl⟩⟩
 case round =>
  obtain ⟨rfl, hcase⟩ := hrel
  rcases hcase with ⟨rfl, rfl⟩ | ⟨rfl, rfl⟩ | ⟨rfl, rfl⟩ | ⟨rfl, rfl⟩
  · go_wp2
    go_roundw
    case rel => exact ⟨by first | trivial | rfl, .inr (.inl ⟨by go_num, by go_num⟩)⟩
    case measure => simp [intOf]
  · go_wp2
    go_roundw
    case rel => exact ⟨by first | trivial | rfl, .inr (.inr (.inl ⟨by go_num, by go_num⟩))⟩
    case measure => simp [intOf]
  · go_wp2
    go_roundw
    case rel => exact ⟨by first | trivial | rfl, .inr (.inr (.inr ⟨by go_num, by go_num⟩))⟩
    case measure => simp [intOf]
  · clear d1 d2 d3
    obtain ⟨w0, hw0⟩ : ∃ w0, w0 = wr := ⟨_, rfl⟩
    subst hw0
    rw [show ((n1 : Int) + n2 + n3) = ((n1 + n2 + n3 : Nat) : Int) by omega]
    have i5 : (0 : Int) ≤ ((n1 + n2 + n3 : Nat) : Int) := by omega
    go_wp2_with fail
    refine (grow_ptrs (n1 + n2 + n3) (by omega) _).mono ?_
    rintro e w1 ⟨v, rfl, o, b⟩
    have O := hid o
    have B := hid b
    clear o b i5
    go_wp2_with fail
    go_loopw [6, 27] (fun v2 i wr => Below w0.heap.size w0 wr ∧ ((i = .int .i64 0 ∧ wr.ownsRow w0.heap.size 70 1 v2 0 []) ∨ (i = .int .i64 1 ∧ wr.ownsRow w0.heap.size 70 1 v2 n1 L1) ∨ (i = .int .i64 2 ∧ wr.ownsRow w0.heap.size 70 1 v2 (n1 + n2) (L1 ++ L2)) ∨ (i = .int .i64 3 ∧ wr.ownsRow w0.heap.size 70 1 v2 (n1 + n2 + n3) (L1 ++ L2 ++ L3)))) (fun _ i _ => 3 - (intOf i).toNat)
    case atStart => exact ⟨B.out, .inl ⟨rfl, O.out⟩⟩
    case round =>
     obtain ⟨bq, hcase⟩ := hrel
     clear O B
     have BQ := hid bq
     have d1 := (bq.cell (p := ⟨G, 0, none⟩) HG.out).trans D1.out
     have d2 := (bq.cell (p := ⟨G, 1, none⟩) HG.out).trans D2.out
     have d3 := (bq.cell (p := ⟨G, 2, none⟩) HG.out).trans D3.out
     have Q1 := hid (HO1.out.below bq)
     have Q2 := hid (HO2.out.below bq)
     have Q3 := hid (HO3.out.below bq)
     clear bq
     rcases hcase with ⟨rfl, o⟩ | ⟨rfl, o⟩ | ⟨rfl, o⟩ | ⟨rfl, o⟩
     · have O := hid o
       clear o d2 d3
       go_wp2_with (at_builtin; refine wpList_append_row rfl _ _ 75 rfl w0.heap.size 70 i0 (.pointer none) 1 8 Tryz.underlying75 hi hz0 hz1 hz2 rfl (by decide) _ 0 [] rfl O.out a1 n1 c1 L1 rfl Q1.out.1 Q1.out.2.1 Q1.out.2.2 H1c.out ?kP0a ?kP0b BQ.out.size ?_)
       case kP0a => unfold maxLen; omega
       case kP0b => omega
       intro a' c' w' o' g'
       have B' := hid (BQ.out.grown g' BQ.out.size (fun k hk => (O.out.lt k hk).1))
       have O' := hid (show w'.ownsRow w0.heap.size 70 1 (.slice a' n1 c') n1 L1 by simpa using o')
       clear o' g' O
       go_wp2
       go_roundw
       case rel => exact ⟨B'.out, .inr (.inl ⟨by go_num, O'.out⟩)⟩
       case measure => simp [intOf]
     · have O := hid o
       clear o d1 d3
       go_wp2_with (at_builtin; refine wpList_append_row rfl _ _ 75 rfl w0.heap.size 70 i0 (.pointer none) 1 8 Tryz.underlying75 hi hz0 hz1 hz2 rfl (by decide) _ n1 L1 rfl O.out a2 n2 c2 L2 rfl Q2.out.1 Q2.out.2.1 Q2.out.2.2 H2c.out ?kP1a ?kP1b BQ.out.size ?_)
       case kP1a => unfold maxLen; omega
       case kP1b => omega
       intro a' c' w' o' g'
       have B' := hid (BQ.out.grown g' BQ.out.size (fun k hk => (O.out.lt k hk).1))
       have O' := hid o'
       clear o' g' O
       go_wp2
       go_roundw
       case rel => exact ⟨B'.out, .inr (.inr (.inl ⟨by go_num, O'.out⟩))⟩
       case measure => simp [intOf]
     · have O := hid o
       clear o d1 d2
       go_wp2_with (at_builtin; refine wpList_append_row rfl _ _ 75 rfl w0.heap.size 70 i0 (.pointer none) 1 8 Tryz.underlying75 hi hz0 hz1 hz2 rfl (by decide) _ (n1 + n2) (L1 ++ L2) rfl O.out a3 n3 c3 L3 rfl Q3.out.1 Q3.out.2.1 Q3.out.2.2 H3c.out ?kP2a ?kP2b BQ.out.size ?_)
       case kP2a => unfold maxLen; omega
       case kP2b => omega
       intro a' c' w' o' g'
       have B' := hid (BQ.out.grown g' BQ.out.size (fun k hk => (O.out.lt k hk).1))
       have O' := hid o'
       clear o' g' O
       go_wp2
       go_roundw
       case rel => exact ⟨B'.out, .inr (.inr (.inr ⟨by go_num, by rw [List.append_assoc]; exact O'.out⟩))⟩
       case measure => simp [intOf]
     · obtain ⟨a', c', e'⟩ := own_sl o
       subst e'
       have O := hid o
       clear o d1 d2 d3
       go_wp2
       go_ret
       exact ⟨_, _, rfl, O.out, BQ.out⟩
end Go.Proofs.YtlkoghdajpbffaaGreat
/- Trees, plain: an entry comes in, as the specification goes down and as the program goes up its way; how much a tree grows. No program, no conditions. -/



namespace Go.Proofs.YtlkoghdajpbffaaGreat
open Go.RowKit
set_option maxRecDepth 100000
def putL {α : Type} (l : List α) (i : Nat) (x : α) : List α := l.take i ++ x :: l.drop i
def takeN (d : Nd) (i : Nat) (e : En) (k : Int) : Nd := ⟨d.leaf, putL d.es i e, if d.leaf then d.ks else putL d.ks (i + 1) k⟩
def lowN (d : Nd) : Nd := ⟨d.leaf, d.es.take 2, if d.leaf then d.ks else d.ks.take 3⟩
def moreN (d : Nd) : Nd := if d.leaf then ⟨true, d.es.drop 2, []⟩ else ⟨false, d.es.drop 3, d.ks.drop 3⟩
def upN (d : Nd) : En := d.es.getD 2 en0
def layN (ns : List Nd) (x : Int) (d : Nd) : List Nd × Option (En × Int) :=
 if d.es.length ≤ 4 then (ns.set x.toNat d, none) else (ns.set x.toNat (lowN d) ++ [moreN d], some (upN d, (ns.length : Int)))
def downS : Nat → List Nd → Int → En → List Nd × Option (En × Int)
 | 0, ns, _, _ => (ns, none)
 | f + 1, ns, x, e =>
  if (ns.getD x.toNat nd0).leaf then layN ns x (takeN (ns.getD x.toNat nd0) (upsB (ns.getD x.toNat nd0).es e) e 0)
  else match downS f ns ((ns.getD x.toNat nd0).ks.getD (upsB (ns.getD x.toNat nd0).es e) 0) e with
   | (ns1, none) => (ns1, none)
   | (ns1, some (up, k)) => layN ns1 x (takeN (ns1.getD x.toNat nd0) (upsB (ns.getD x.toNat nd0).es e) up k)
def upS : List (Int × Nat) → List Nd → En → Int → List Nd × Option (En × Int)
 | [], ns, e, k => (ns, some (e, k))
 | (x, i) :: way, ns, e, k =>
  match layN ns x (takeN (ns.getD x.toNat nd0) i e k) with
  | (ns1, none) => (ns1, none)
  | (ns1, some (up, k')) => upS way ns1 up k'
def wayW (ns : List Nd) : Nat → Int → En → List (Int × Nat)
 | 0, _, _ => []
 | f + 1, x, e => (x, upsB (ns.getD x.toNat nd0).es e) :: (if (ns.getD x.toNat nd0).leaf then [] else wayW ns f ((ns.getD x.toNat nd0).ks.getD (upsB (ns.getD x.toNat nd0).es e) 0) e)
theorem upS_app : ∀ (a b : List (Int × Nat)) (ns : List Nd) (e : En) (k : Int), upS (a ++ b) ns e k = (match upS a ns e k with | (ns1, none) => (ns1, none) | (ns1, some (up, k')) => upS b ns1 up k')
 | [], b, ns, e, k => rfl
 | (x, i) :: a, b, ns, e, k => by
  rw [List.cons_append, upS, upS]
  rcases layN ns x (takeN (ns.getD x.toNat nd0) i e k) with ⟨ns1, _ | ⟨up, k'⟩⟩
  · rfl
  · exact upS_app a b ns1 up k'
theorem upS_one (x : Int) (i : Nat) (ns : List Nd) (e : En) (k : Int) : upS [(x, i)] ns e k = layN ns x (takeN (ns.getD x.toNat nd0) i e k) := by
 rw [upS]
 rcases layN ns x (takeN (ns.getD x.toNat nd0) i e k) with ⟨ns1, _ | ⟨up, k'⟩⟩
 · rfl
 · rfl
theorem takeN_leaf {d : Nd} (h : d.leaf = true) (i : Nat) (e : En) (k k' : Int) : takeN d i e k = takeN d i e k' := by unfold takeN; rw [if_pos h, if_pos h]
theorem down_up : ∀ (f : Nat) (ns : List Nd) (x : Int) (e : En) (k : Int), good ns f x → downS f ns x e = upS (wayW ns f x e).reverse ns e k
 | 0, _, _, _, _, h => h.elim
 | f + 1, ns, x, e, k, h => by
  obtain ⟨hf, h0, h1, hk⟩ := h
  rw [downS, wayW, List.reverse_cons]
  cases hl : (ns.getD x.toNat nd0).leaf with
  | true =>
   rw [if_pos rfl, if_pos rfl, List.reverse_nil, List.nil_append, upS_one, takeN_leaf hl _ _ k 0]
  | false =>
   obtain ⟨q1, q2, q3⟩ := form_kids hf hl
   have hle := upsB_le (ns.getD x.toNat nd0).es e
   have ih := down_up f ns ((ns.getD x.toNat nd0).ks.getD (upsB (ns.getD x.toNat nd0).es e) 0) e k (hk _ (getD_mem11 (by omega)))
   rw [if_neg (by simp), if_neg (by simp), upS_app, ih]
   rcases upS (wayW ns f ((ns.getD x.toNat nd0).ks.getD (upsB (ns.getD x.toNat nd0).es e) 0) e).reverse ns e k with ⟨ns1, _ | ⟨up, k'⟩⟩
   · rfl
   · simp only [upS_one]
def addT (ns : List Nd) (root : Int) (q : En) : List Nd × Int × Bool :=
 if (treeIs ns root && (entOk q && !isAt ns root q)) = true then
  match downS (ns.length + 1) ns root q with
  | (ns1, none) => if 300 < ns1.length then ([], 0, false) else (ns1, root, true)
  | (ns1, some (up, k)) => if 300 < ns1.length + 1 then ([], 0, false) else (ns1 ++ [⟨false, [up], [root, k]⟩], (ns1.length : Int), true)
 else ([], 0, false)
/-! How much it grows. -/
theorem putL_len {α : Type} (l : List α) (i : Nat) (x : α) : (putL l i x).length = l.length + 1 := by
 unfold putL
 rw [List.length_append, List.length_cons, List.length_take, List.length_drop]
 omega
theorem sumE_put (l : List En) (i : Nat) (x : En) : sumE (putL l i x) = sumE l + x.Z.length := by
 unfold putL
 have h := congrArg sumE (List.take_append_drop i l)
 rw [sumE_app] at h
 rw [sumE_app]
 simp only [sumE]
 omega
theorem sz_take (d : Nd) (i : Nat) (e : En) (k : Int) : szD (takeN d i e k) ≤ szD d + 2 + e.Z.length := by
 unfold szD takeN
 dsimp only
 rw [putL_len, sumE_put]
 split
 · omega
 · rw [putL_len]; omega
theorem sz_split (d : Nd) (h : 2 < d.es.length) : szD (lowN d) + szD (moreN d) + (if d.leaf then 0 else 1 + (upN d).Z.length) ≤ szD d ∧ (upN d).Z.length ≤ sumE d.es := by
 refine ⟨?_, sumE_at _ 2 h⟩
 have hs2 := congrArg sumE (List.take_append_drop 2 d.es)
 rw [sumE_app] at hs2
 have hd : d.es.drop 2 = d.es.getD 2 en0 :: d.es.drop 3 := by
  rw [List.drop_eq_getElem_cons h, List.getD_eq_getElem?_getD, List.getElem?_eq_getElem h]; rfl
 unfold szD lowN moreN upN
 cases hl : d.leaf with
 | true =>
  simp only [if_true, List.length_take, List.length_drop, List.length_nil]
  omega
 | false =>
  rw [hd] at hs2
  simp only [sumE] at hs2
  simp only [Bool.false_eq_true, if_false, List.length_take, List.length_drop]
  omega
theorem sumD_set : ∀ (ns : List Nd) (k : Nat) (d : Nd), sumD szD (ns.set k d) + szD (ns.getD k nd0) ≤ sumD szD ns + szD d
 | [], k, d => by simp [sumD, szD, nd0, sumE]
 | x :: ns, 0, d => by simp only [List.set_cons_zero, sumD, List.getD_cons_zero]; omega
 | x :: ns, k + 1, d => by
  have := sumD_set ns k d
  simp only [List.set_cons_succ, sumD, List.getD_cons_succ]
  omega
def pend (o : Option (En × Int)) : Nat := match o with
 | none => 0
 | some (up, _) => 1 + up.Z.length
theorem lay_sz (ns : List Nd) (x : Int) (i : Nat) (e : En) (k : Int) : sumD szD (layN ns x (takeN (ns.getD x.toNat nd0) i e k)).1 + (if (ns.getD x.toNat nd0).leaf then 0 else pend (layN ns x (takeN (ns.getD x.toNat nd0) i e k)).2) ≤ sumD szD ns + 2 + e.Z.length ∧ pend (layN ns x (takeN (ns.getD x.toNat nd0) i e k)).2 ≤ sumD szD ns + 1 + e.Z.length ∧ (layN ns x (takeN (ns.getD x.toNat nd0) i e k)).1.length ≤ ns.length + 1 := by
 have ht := sz_take (ns.getD x.toNat nd0) i e k
 have hlf : (takeN (ns.getD x.toNat nd0) i e k).leaf = (ns.getD x.toNat nd0).leaf := rfl
 have hse : sumE (takeN (ns.getD x.toNat nd0) i e k).es = sumE (ns.getD x.toNat nd0).es + e.Z.length := sumE_put _ _ _
 have hd : sumE (ns.getD x.toNat nd0).es ≤ sumD szD ns := by
  by_cases hx : x.toNat < ns.length
  · have := sumD_at szD ns x.toNat hx
    unfold szD at this
    unfold szD
    omega
  · rw [show ns.getD x.toNat nd0 = nd0 by simp [List.getD, List.getElem?_eq_none (Nat.le_of_not_lt hx)]]
    exact Nat.zero_le _
 have hw := fun d => sumD_set ns x.toNat d
 rw [← hlf]
 generalize takeN (ns.getD x.toNat nd0) i e k = d at *
 unfold layN
 split
 · have := hw d
   simp only [pend, List.length_set]
   refine ⟨?_, Nat.zero_le _, Nat.le_succ _⟩
   split <;> omega
 · rename_i h4
   obtain ⟨h1, h2⟩ := sz_split d (by omega)
   have := hw (lowN d)
   simp only [pend, sumD_app, sumD, List.length_append, List.length_set, List.length_singleton]
   refine ⟨?_, by omega, Nat.le_refl _⟩
   cases hl : d.leaf with
   | true => rw [hl] at h1; simp only [if_true] at h1 ⊢; omega
   | false => rw [hl] at h1; simp only [Bool.false_eq_true, if_false] at h1 ⊢; omega
theorem lay_flag (ns : List Nd) (x : Int) (d : Nd) (hd : d.leaf = (ns.getD x.toNat nd0).leaf) : (∀ i, i < ns.length → ((layN ns x d).1.getD i nd0).leaf = (ns.getD i nd0).leaf) ∧ ns.length ≤ (layN ns x d).1.length := by
 have key : ∀ (d' : Nd), d'.leaf = (ns.getD x.toNat nd0).leaf → ∀ i, i < ns.length → ((ns.set x.toNat d').getD i nd0).leaf = (ns.getD i nd0).leaf := fun d' h i hi => by
  by_cases e : x.toNat = i
  · subst e
    rw [List.getD_eq_getElem?_getD, List.getElem?_set_self hi]
    exact h
  · rw [List.getD_eq_getElem?_getD, List.getElem?_set_ne e, ← List.getD_eq_getElem?_getD]
 unfold layN
 split
 · exact ⟨key d hd, by simp⟩
 · refine ⟨fun i hi => ?_, by simp⟩
   rw [← key (lowN d) hd i hi, List.getD_eq_getElem?_getD, List.getElem?_append_left (by rw [List.length_set]; exact hi), ← List.getD_eq_getElem?_getD]
theorem down_flag : ∀ (f : Nat) (ns : List Nd) (x : Int) (e : En), good ns f x → (∀ i, i < ns.length → ((downS f ns x e).1.getD i nd0).leaf = (ns.getD i nd0).leaf) ∧ ns.length ≤ (downS f ns x e).1.length
 | 0, _, _, _, h => h.elim
 | f + 1, ns, x, e, h => by
  obtain ⟨hf, h0, h1, hk⟩ := h
  rw [downS]
  cases hl : (ns.getD x.toNat nd0).leaf with
  | true => rw [if_pos rfl]; exact lay_flag ns x _ rfl
  | false =>
   obtain ⟨q1, q2, q3⟩ := form_kids hf hl
   have hle := upsB_le (ns.getD x.toNat nd0).es e
   have ih := down_flag f ns ((ns.getD x.toNat nd0).ks.getD (upsB (ns.getD x.toNat nd0).es e) 0) e (hk _ (getD_mem11 (by omega)))
   rw [if_neg (by simp)]
   generalize downS f ns ((ns.getD x.toNat nd0).ks.getD (upsB (ns.getD x.toNat nd0).es e) 0) e = R at ih ⊢
   obtain ⟨ns1, o⟩ := R
   cases o with
   | none => exact ih
   | some t =>
    obtain ⟨up, k⟩ := t
    dsimp only at ih ⊢
    obtain ⟨g1, g2⟩ := lay_flag ns1 x (takeN (ns1.getD x.toNat nd0) (upsB (ns.getD x.toNat nd0).es e) up k) rfl
    exact ⟨fun i hi => (g1 i (by omega)).trans (ih.1 i hi), by omega⟩
theorem down_sz : ∀ (f : Nat) (ns : List Nd) (x : Int) (e : En), good ns f x → sumD szD (downS f ns x e).1 + pend (downS f ns x e).2 ≤ 2 * sumD szD ns + 2 * e.Z.length + 3 + 2 * f ∧ (downS f ns x e).1.length ≤ ns.length + f
 | 0, _, _, _, h => h.elim
 | f + 1, ns, x, e, h => by
  have hfl := down_flag (f + 1) ns x e h
  obtain ⟨hf, h0, h1, hk⟩ := h
  rw [downS]
  cases hl : (ns.getD x.toNat nd0).leaf with
  | true =>
   rw [if_pos rfl]
   obtain ⟨h1, h2, h3⟩ := lay_sz ns x (upsB (ns.getD x.toNat nd0).es e) e 0
   rw [if_pos hl] at h1
   omega
  | false =>
   obtain ⟨q1, q2, q3⟩ := form_kids hf hl
   have hle := upsB_le (ns.getD x.toNat nd0).es e
   have hg := hk _ (getD_mem11 (i := upsB (ns.getD x.toNat nd0).es e) (by omega))
   have ih := down_sz f ns ((ns.getD x.toNat nd0).ks.getD (upsB (ns.getD x.toNat nd0).es e) 0) e hg
   have fl := down_flag f ns ((ns.getD x.toNat nd0).ks.getD (upsB (ns.getD x.toNat nd0).es e) 0) e hg
   rw [if_neg (by simp)]
   clear hfl
   generalize downS f ns ((ns.getD x.toNat nd0).ks.getD (upsB (ns.getD x.toNat nd0).es e) 0) e = R at ih fl ⊢
   obtain ⟨ns1, o⟩ := R
   cases o with
   | none => simp only [pend] at ih ⊢; omega
   | some t =>
    obtain ⟨up, k⟩ := t
    simp only [pend] at ih
    dsimp only at ih fl ⊢
    obtain ⟨g1, g2, g3⟩ := lay_sz ns1 x (upsB (ns.getD x.toNat nd0).es e) up k
    rw [if_neg (by rw [fl.1 x.toNat (by omega), hl]; simp)] at g1
    omega
theorem sumD_few : ∀ (ds : List Nd), (∀ d ∈ ds, szD d ≤ 169) → sumD szD ds ≤ 169 * ds.length
 | [], _ => Nat.le_refl _
 | d :: ds, h => by
  have h1 := sumD_few ds (fun x hx => h x (List.mem_cons_of_mem _ hx))
  have h2 := h d (by simp)
  simp only [sumD, List.length_cons]
  omega
theorem good_form (ns : List Nd) : ∀ (f : Nat) (x y : Int), good ns f x → y ∈ posL ns f x → formOk (ns.getD y.toNat nd0) = true
 | 0, _, _, _, hy => by simp [posL] at hy
 | f + 1, x, y, h, hy => by
  rcases pos_kid hy with e | ⟨i, hi', hy'⟩
  · rw [e]; exact h.1
  · exact good_form ns f _ _ (h.2.2.2 _ (getD_mem11 hi')) hy'
theorem tree_few {ns : List Nd} {root : Int} (h : treeIs ns root = true) : ns.length ≤ 300 ∧ sumD szD ns ≤ 50700 := by
 have hl : ns.length ≤ 300 := by
  unfold treeIs at h
  rw [Bool.and_eq_true] at h
  exact (of_decide_eq_true h.1).2
 refine ⟨hl, Nat.le_trans (sumD_few ns (fun d hd => ?_)) (by omega)⟩
 obtain ⟨i, hi, rfl⟩ := List.mem_iff_getElem.1 hd
 obtain ⟨hg, _, hp⟩ := treeIs_parts h
 have hf := good_form ns _ _ _ hg (hp i hi)
 rw [Int.toNat_natCast] at hf
 obtain ⟨lo, hi', hn⟩ := node_ok h hi
 have hs := sumE_small _ (nodeOk_ents hn)
 rw [List.getD_eq_getElem?_getD, List.getElem?_eq_getElem hi] at hf hs
 dsimp only [Option.getD_some] at hf hs
 unfold szD
 cases hlf : ns[i].leaf with
 | true => have := form_leaf hf hlf; omega
 | false => have := form_kids hf hlf; omega
theorem addT_small (ns : List Nd) (root : Int) (q : En) : (addT ns root q).1.length ≤ 300 ∧ sumD szD (addT ns root q).1 ≤ 200000 := by
 unfold addT
 split
 · rename_i h
   rw [Bool.and_eq_true, Bool.and_eq_true] at h
   obtain ⟨hl, hs⟩ := tree_few h.1
   have hq := entOk_small h.2.1
   obtain ⟨d1, d2⟩ := down_sz _ ns root q (treeIs_parts h.1).1
   generalize downS (ns.length + 1) ns root q = R at d1 d2 ⊢
   obtain ⟨ns1, o⟩ := R
   cases o with
   | none =>
    simp only [pend] at d1
    dsimp only at d1 d2 ⊢
    split
    · exact ⟨Nat.zero_le _, Nat.zero_le _⟩
    · dsimp only; omega
   | some t =>
    obtain ⟨up, k⟩ := t
    simp only [pend] at d1
    dsimp only at d1 d2 ⊢
    split
    · exact ⟨Nat.zero_le _, Nat.zero_le _⟩
    · simp only [List.length_append, sumD_app, sumD, szD, sumE, List.length_cons, List.length_nil]; omega
 · exact ⟨Nat.zero_le _, Nat.zero_le _⟩
end Go.Proofs.YtlkoghdajpbffaaGreat
