/- The contract of the program's DeedsOk: moments are kept in a map. Conditions: texts of at most 2^21 bytes. -/
import Derived.Test.YtnbpblephmjfnaaGreatHb14
namespace Go.Proofs.YtnbpblephmjfnaaGreat
open Go.RowKit Go.Maps
set_option maxRecDepth 100000
theorem law14 : Keyed Tryz.prog 3 := int_keyed Tryz.underlying3
theorem run_makeHint14 (n : Nat) (w : World) : (Instr.makeMap 80 (some (.int .i64 n))).run Tryz.prog w = .ok (.map (some w.heap.size)) (w.alloc (.map #[] 0)) := by kernel_rfl
def momS (R : List Int) : DataW Unit := setOf (.agg []) (R.map (Lit.int .i64))
theorem mom_snoc (R : List Int) (x : Int) : momS (R ++ [x]) = (momS R).put (.int .i64 x) (.agg []) := by
 unfold momS
 rw [List.map_append, List.map_singleton, setOf_snoc]
theorem wf_bd14 {x : Int} (h : -9223372036854775808 ≤ x ∧ x ≤ 9223372036854775807) : (Lit.int .i64 x).wf = true := WalkArith.wf_i64 h
theorem any_int14 (x : Int) : ∀ l : List Int, l.any ((fun y : Lit => y.sameKey (.int .i64 x)) ∘ Lit.int .i64) = decide (x ∈ l)
 | [] => rfl
 | a :: r => by
  rw [List.any_cons, any_int14 x r]
  show (decide (IntKind.i64 = IntKind.i64 ∧ a = x) || decide (x ∈ r)) = decide (x ∈ a :: r)
  rw [Bool.eq_iff_iff, Bool.or_eq_true, decide_eq_true_iff, decide_eq_true_iff, decide_eq_true_iff, List.mem_cons]
  exact ⟨fun h => h.elim (fun h => .inl h.2.symm) .inr, fun h => h.elim (fun h => .inl ⟨rfl, h.symm⟩) .inr⟩
theorem keys_mom (R : List Int) : ∀ y ∈ R.map (Lit.int .i64), WideAt.IsKeyLit y := fun y hy => by obtain ⟨_, _, rfl⟩ := List.mem_map.1 hy; trivial
theorem has_mom (R : List Int) (x : Int) : Maps.has (momS R) (.int .i64 x) = decide (x ∈ R) := by
 unfold momS
 rw [has_setOf _ _ _ (keys_mom R), List.any_map]
 exact any_int14 x _
theorem size_mom_snoc (R : List Int) (x : Int) : Maps.size (momS (R ++ [x])) = Maps.size (momS R) + (if x ∈ R then 0 else 1) := by
 have t : Tidy (momS R) := tidy_setOf _ _ (keys_mom R)
 rw [mom_snoc, size_put t, has_mom]
 by_cases h : x ∈ R <;> simp [h]
theorem take_int (R : List Int) {k : Nat} (h : k < R.length) : R.take (k + 1) = R.take k ++ [R.getD k 0] := by
 rw [List.take_succ_eq_append_getElem h, List.getD_eq_getElem?_getD, List.getElem?_eq_getElem h]; rfl
theorem nodup_snoc14 (l : List Int) (x : Int) : (l ++ [x]).Nodup ↔ l.Nodup ∧ x ∉ l := by
 rw [List.nodup_append]
 constructor
 · rintro ⟨h1, -, h3⟩
   exact ⟨h1, fun q => h3 x q x (by simp) rfl⟩
 · rintro ⟨h1, h2⟩
   refine ⟨h1, by simp, fun a ha b hb e => ?_⟩
   simp at hb
   subst hb e
   exact h2 ha
theorem size_mom_take (R : List Int) : ∀ k, k ≤ R.length → Maps.size (momS (R.take k)) ≤ k ∧ (Maps.size (momS (R.take k)) = k ↔ (R.take k).Nodup)
 | 0, _ => by
  rw [List.take_zero]
  exact ⟨Nat.le_of_eq rfl, by simp; rfl⟩
 | k + 1, h => by
  obtain ⟨h1, h2⟩ := size_mom_take R k (by omega)
  rw [take_int R (by omega), size_mom_snoc, nodup_snoc14]
  by_cases hx : R.getD k 0 ∈ R.take k
  · rw [if_pos hx]
    exact ⟨by omega, by constructor; intro e; omega; rintro ⟨_, q⟩; exact absurd hx q⟩
  · rw [if_neg hx]
    refine ⟨by omega, ?_⟩
    constructor
    · intro e; exact ⟨h2.1 (by omega), hx⟩
    · rintro ⟨q, _⟩; have := h2.2 q; omega
theorem size_mom (R : List Int) : Maps.size (momS R) = R.length ↔ R.Nodup := by
 have := (size_mom_take R R.length (Nat.le_refl _)).2
 rwa [List.take_length] at this
theorem size_mom_le (R : List Int) : Maps.size (momS R) ≤ R.length := by
 have := (size_mom_take R R.length (Nat.le_refl _)).1
 rwa [List.take_length] at this
set_option maxHeartbeats 6400000 in
theorem impl_DeedsOk {a : Option Addr} {n : Nat} (c : Nat) {ts : List Tk} {w : World} (h : ReadsV w a ts) (hl : ts.length = n) (hsm : smT ts) (hbd : bdTs ts) :
 Calls Tryz.prog 10 #[.slice a n c] w fun e w' => e = .returned (.bool (deedsB ts)) ∧ Below w.heap.size w w' := by
 by_cases hbig : 100 < n
 · have q : (100 : Int) < (n : Int) := by omega
   have HV := hid (deedsB_no (ts := ts) (fun q => by have := q.1; omega))
   go_enter Tryz.func10, Tryz.ntmps10
   go_wp2
   go_ret
   exact ⟨by rw [HV.out]; rfl, Below.refl _ _⟩
 have q : ¬ (100 : Int) < (n : Int) := by omega
 obtain ⟨V, hV⟩ : ∃ V, deedsB ts = V := ⟨_, rfl⟩
 rw [hV]
 have HVV := hid hV
 have HRT := hid h
 have HL := hid hl
 have HSM := hid hsm
 have HBD := hid hbd
 clear hV h hl hsm hbd
 have hmm : ∀ w, (Instr.makeMap 80 (some (.int .i64 (2 * (n : Int))))).run Tryz.prog w = .ok (.map (some w.heap.size)) (w.alloc (.map #[] 0)) := fun w => by have := run_makeHint14 (2 * n) w; rwa [show ((2 * n : Nat) : Int) = 2 * (n : Int) by omega] at this
 go_enter Tryz.func10, Tryz.ntmps10
 go_wp2_with fail
 clear hmm
 go_loopw [15] (fun i wr => ∃ k : Nat, k ≤ n ∧ i = .int .i64 k ∧ Hid (∀ i, i < k → deedB (ts.getD i tk0) = true) ∧ Hid (wr.ownsMap Tryz.prog 3 (unitElem (H := Unit)) w.heap.size (2 * k) (momS (tmL (ts.take k)))) ∧ Hid (Below w.heap.size w wr)) (fun i _ => n - (intOf i).toNat)
 case atStart => exact ⟨0, Nat.zero_le _, rfl, hid (fun i hi => by omega), hid (World.ownsMap_made _ _ _ _), hid (Below.alloc1 _ _)⟩
 case round =>
  obtain ⟨k, hk, rfl, HA, HM, HB⟩ := hrel
  by_cases hlt : k < n
  · have hlt' : (k : Int) < (n : Int) := by omega
    have hk0 : (0 : Int) ≤ (k : Int) := by omega
    obtain ⟨b, off, a1, c1, a2, c2, rfl, bx0, r1, _, r2, _⟩ := HRT.out.at (k := k) (by have := HL.out; omega)
    obtain ⟨y0, y1, y2, y4, y5⟩ := bx0.below HB.out (Nat.le_refl _)
    have HSk := hid (HSM.out k)
    have HBk := hid (HBD.out k)
    have HBad := hid (fun q => deedsB_bad (ts := ts) (i := k) (by have := HL.out; omega) q)
    have HNx := hid (fun (g : deedB (ts.getD k tk0) = true) i (hi : i < k + 1) => show deedB (ts.getD i tk0) = true from by
     by_cases hc : i < k
     · exact HA.out i hc
     · have : i = k := by omega
       subst this
       exact g)
    have HSu := hid (tmL_succ ts (k := k) (by have := HL.out; omega))
    generalize ts.getD k tk0 = t at *
    obtain ⟨xi, be, en, al, rs, ws, inn, ou⟩ := t
    simp only at y0 y1 y2 y4 y5 r1 r2 HSu HBk
    obtain ⟨L, hL⟩ : ∃ L, tmL (ts.take k) = L := ⟨_, rfl⟩
    rw [hL] at HM HSu
    clear hL
    obtain ⟨n1, hn1⟩ : ∃ n, rs.length = n := ⟨_, rfl⟩
    obtain ⟨n2, hn2⟩ : ∃ n, ws.length = n := ⟨_, rfl⟩
    rw [hn1] at y4
    rw [hn2] at y5
    have HN := hid (And.intro hn1 hn2)
    have bA := Below.alloc1 wr (.cells #[.int .i64 xi, .int .i64 be, .int .i64 en, .slice a1 n1 c1, .slice a2 n2 c2] 68)
    have HBA := hid (HB.out.trans (bA.mono HB.out.size))
    have HX := hid (BoxV.row (heap_alloc_new wr (.cells #[.int .i64 xi, .int .i64 be, .int .i64 en, .slice a1 n1 c1, .slice a2 n2 c2] 68)))
    have HMA := hid (HM.out.alloc (.cells #[.int .i64 xi, .int .i64 be, .int .i64 en, .slice a1 n1 c1, .slice a2 n2 c2] 68))
    have HZ := hid (alloc_size wr (.cells #[.int .i64 xi, .int .i64 be, .int .i64 en, .slice a1 n1 c1, .slice a2 n2 c2] 68))
    have HR1 := hid (r1.below HBA.out (Nat.le_refl _))
    have HR2 := hid (r2.below HBA.out (Nat.le_refl _))
    have HML := hid HM.out.lt
    clear bx0 r1 r2 hn1 hn2 bA HM
    go_wp2_with fail
    clear y0 y1 y2 y4 y5
    refine (impl_isDeed xi be en al inn ou c1 c2 HR1.out HN.out.1 HSk.out.1 HR2.out HN.out.2 HSk.out.2).mono ?_
    rintro e w1 ⟨rfl, b1⟩
    have HX1 := hid (HX.out.below b1 (Nat.le_refl _))
    have HM1 := hid (HMA.out.kept (row := none) ⟨b1.os, b1.tape, b1.output, b1.size, fun k hk _ => b1.block k hk⟩ (by simp))
    have HB1 := hid (HBA.out.trans (b1.mono HBA.out.size))
    have HW1 := hid (show wr.heap.size < w1.heap.size by have := HZ.out; have := b1.size; omega)
    clear b1 HBA HX HMA
    cases hv : deedB ⟨xi, be, en, al, rs, ws, inn, ou⟩ with
    | false =>
     have HF := hid (show V = false by rw [← HVV.out]; exact HBad.out hv)
     clear hv
     go_wp2_with fail
     go_ret
     exact ⟨by rw [HF.out]; rfl, HB1.out⟩
    | true =>
     have HN2 := hid (HNx.out hv)
     have x1 := HX1.out.c1
     have hkey1 : keyOf Tryz.prog 3 (.int .i64 be) = some (.int .i64 be) := keyOf_int_mk Tryz.underlying3 (wf_bd14 HBk.out.2.1)
     have hkey2 : keyOf Tryz.prog 3 (.int .i64 en) = some (.int .i64 en) := keyOf_int_mk Tryz.underlying3 (wf_bd14 HBk.out.2.2)
     clear hv
     go_wp2_with (first
      | (at_mapUpdate; refine wpList_mapUpdate_own _ rfl _ _ _ 80 rfl 3 82 law14 Tryz.underlying80 (unitElem (H := Unit)) w.heap.size (2 * k) _ rfl HM1.out (by unfold maxLen; omega) _ _ _ rfl rfl hkey1 _ [] unitElem_mk ?_; intro w2 hown1 hgrow1; have x2 := (hgrow1.cell HX1.out.c2 (fun e => by have h1 := HML.out; have e' : wr.heap.size = w.heap.size := Option.some.inj e; omega)))
      | (at_mapUpdate; refine wpList_mapUpdate_own _ rfl _ _ _ 80 rfl 3 82 law14 Tryz.underlying80 (unitElem (H := Unit)) w.heap.size (2 * k + 1) _ rfl hown1 (by unfold maxLen; omega) _ _ _ rfl rfl hkey2 _ [] unitElem_mk ?_; intro w3 hown2 hgrow2))
     have N1 := hid (HB1.out.grown hgrow1 HB1.out.size (fun j hj => by cases hj; exact Nat.le_refl _))
     have M2 := hid (show w3.ownsMap Tryz.prog 3 (unitElem (H := Unit)) w.heap.size (2 * (k + 1)) (momS (tmL (ts.take (k + 1)))) by rw [HSu.out, mom_snoc, mom_snoc]; exact hown2)
     have N2 := hid (N1.out.grown hgrow2 N1.out.size (fun j hj => by cases hj; exact Nat.le_refl _))
     clear x1 x2 hown1 hgrow1 hown2 hgrow2
     go_roundw
     case rel => exact ⟨k + 1, by omega, by go_num, HN2, M2, N2⟩
     case measure => simp [intOf]; omega
  · have hlt' : ¬ (k : Int) < (n : Int) := by omega
    have hkn : k = n := by omega
    subst hkn
    have HTk := hid (show ts.take k = ts from List.take_of_length_le (by have := HL.out; omega))
    rw [HTk.out] at HM
    have HTL := hid (show (tmL ts).length = 2 * k by rw [tmL_len, HL.out])
    obtain ⟨z, hz⟩ : ∃ z, Maps.size (momS (tmL ts)) = z := ⟨_, rfl⟩
    have hzl : z ≤ 2 * k := by have := size_mom_le (tmL ts); have := HTL.out; omega
    have HE := hid (show deedsB ts = decide (z = 2 * k) by
     by_cases e : z = 2 * k
     · rw [decide_eq_true e]
       exact deedsB_yes ⟨by have := HL.out; omega, fun i hi => HA.out i (by have := HL.out; omega), (size_mom _).1 (by rw [hz, HTL.out]; exact e)⟩
     · rw [decide_eq_false e]
       exact deedsB_no (fun q => e (by rw [← hz, (size_mom _).2 q.2.2, HTL.out])))
    have HZ := hid hz
    have hb : ((z : Int) == 2 * (k : Int)) = decide (z = 2 * k) := by
     rw [Bool.eq_iff_iff, decide_eq_true_iff, beq_iff_eq]; omega
    clear hz
    go_wp2_with (at_len; refine wpList_len_own _ rfl _ 80 rfl 3 82 Tryz.underlying80 (unitElem (H := Unit)) w.heap.size (2 * k) _ rfl HM.out ?_; rw [HZ.out])
    go_ret
    exact ⟨by rw [← HVV.out, HE.out]; first | rfl | (simp only [hb]), HB.out⟩
end Go.Proofs.YtnbpblephmjfnaaGreat
