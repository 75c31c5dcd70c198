/- Texts of this proof in one: Hc14 Hv14 Wh14 Wi14 Va14 Vb14. -/
import Derived.Test.YtjcjoabblafboaaGreatHb14
import Derived.Test.YtjcjoabblafboaaGreatMgi
import Derived.Test.YtjcjoabblafboaaGreatMgh
/- The contract of the program's DeedsOk: moments are kept in a map. Conditions: texts of at most 2^21 bytes. -/

namespace Go.Proofs.YtjcjoabblafboaaGreat
open Go.RowKit Go.Maps
set_option maxRecDepth 100000
theorem law14 : Keyed Tryz.prog 3 := int_keyed Tryz.underlying3
theorem run_makeHint14 (n : Nat) (w : World) : (Instr.makeMap 80 (some (.int .i64 n))).run Tryz.prog w = .ok (.map (some w.heap.size)) (w.alloc (.map #[] 0)) := by kernel_rfl
def momS (R : List Int) : DataW Unit := setOf (.agg []) (R.map (Lit.int .i64))
theorem mom_snoc (R : List Int) (x : Int) : momS (R ++ [x]) = (momS R).put (.int .i64 x) (.agg []) := by
 unfold momS
 rw [List.map_append, List.map_singleton, setOf_snoc]
theorem wf_bd14 {x : Int} (h : -9223372036854775808 ≤ x ∧ x ≤ 9223372036854775807) : (Lit.int .i64 x).wf = true := WalkArith.wf_i64 h
theorem any_int14 (x : Int) : ∀ l : List Int, l.any ((fun y : Lit => y.sameKey (.int .i64 x)) ∘ Lit.int .i64) = decide (x ∈ l)
 | [] => rfl
 | a :: r => by
  rw [List.any_cons, any_int14 x r]
  show (decide (IntKind.i64 = IntKind.i64 ∧ a = x) || decide (x ∈ r)) = decide (x ∈ a :: r)
  rw [Bool.eq_iff_iff, Bool.or_eq_true, decide_eq_true_iff, decide_eq_true_iff, decide_eq_true_iff, List.mem_cons]
  exact ⟨fun h => h.elim (fun h => .inl h.2.symm) .inr, fun h => h.elim (fun h => .inl ⟨rfl, h.symm⟩) .inr⟩
theorem keys_mom (R : List Int) : ∀ y ∈ R.map (Lit.int .i64), WideAt.IsKeyLit y := fun y hy => by obtain ⟨_, _, rfl⟩ := List.mem_map.1 hy; trivial
theorem has_mom (R : List Int) (x : Int) : Maps.has (momS R) (.int .i64 x) = decide (x ∈ R) := by
 unfold momS
 rw [has_setOf _ _ _ (keys_mom R), List.any_map]
 exact any_int14 x _
theorem size_mom_snoc (R : List Int) (x : Int) : Maps.size (momS (R ++ [x])) = Maps.size (momS R) + (if x ∈ R then 0 else 1) := by
 have t : Tidy (momS R) := tidy_setOf _ _ (keys_mom R)
 rw [mom_snoc, size_put t, has_mom]
 by_cases h : x ∈ R <;> simp [h]
theorem take_int (R : List Int) {k : Nat} (h : k < R.length) : R.take (k + 1) = R.take k ++ [R.getD k 0] := by
 rw [List.take_succ_eq_append_getElem h, List.getD_eq_getElem?_getD, List.getElem?_eq_getElem h]; rfl
theorem nodup_snoc14 (l : List Int) (x : Int) : (l ++ [x]).Nodup ↔ l.Nodup ∧ x ∉ l := by
 rw [List.nodup_append]
 constructor
 · rintro ⟨h1, -, h3⟩
   exact ⟨h1, fun q => h3 x q x (by simp) rfl⟩
 · rintro ⟨h1, h2⟩
   refine ⟨h1, by simp, fun a ha b hb e => ?_⟩
   simp at hb
   subst hb e
   exact h2 ha
theorem size_mom_take (R : List Int) : ∀ k, k ≤ R.length → Maps.size (momS (R.take k)) ≤ k ∧ (Maps.size (momS (R.take k)) = k ↔ (R.take k).Nodup)
 | 0, _ => by
  rw [List.take_zero]
  exact ⟨Nat.le_of_eq rfl, by simp; rfl⟩
 | k + 1, h => by
  obtain ⟨h1, h2⟩ := size_mom_take R k (by omega)
  rw [take_int R (by omega), size_mom_snoc, nodup_snoc14]
  by_cases hx : R.getD k 0 ∈ R.take k
  · rw [if_pos hx]
    exact ⟨by omega, by constructor; intro e; omega; rintro ⟨_, q⟩; exact absurd hx q⟩
  · rw [if_neg hx]
    refine ⟨by omega, ?_⟩
    constructor
    · intro e; exact ⟨h2.1 (by omega), hx⟩
    · rintro ⟨q, _⟩; have := h2.2 q; omega
theorem size_mom (R : List Int) : Maps.size (momS R) = R.length ↔ R.Nodup := by
 have := (size_mom_take R R.length (Nat.le_refl _)).2
 rwa [List.take_length] at this
theorem size_mom_le (R : List Int) : Maps.size (momS R) ≤ R.length := by
 have := (size_mom_take R R.length (Nat.le_refl _)).1
 rwa [List.take_length] at this
set_option maxHeartbeats 6400000 in
theorem impl_DeedsOk {a : Option Addr} {n : Nat} (c : Nat) {ts : List Tk} {w : World} (h : ReadsV w a ts) (hl : ts.length = n) (hsm : smT ts) (hbd : bdTs ts) :
 Calls Tryz.prog 10 #[.slice a n c] w fun e w' => e = .returned (.bool (deedsB ts)) ∧ Below w.heap.size w w' := by
 by_cases hbig : 100 < n
 · have q : (100 : Int) < (n : Int) := by omega
   have HV := hid (deedsB_no (ts := ts) (fun q => by have := q.1; omega))
   go_enter Tryz.func10, Tryz.ntmps10
   go_wp2
   go_ret
   exact ⟨by rw [HV.out]; rfl, Below.refl _ _⟩
 have q : ¬ (100 : Int) < (n : Int) := by omega
 obtain ⟨V, hV⟩ : ∃ V, deedsB ts = V := ⟨_, rfl⟩
 rw [hV]
 have HVV := hid hV
 have HRT := hid h
 have HL := hid hl
 have HSM := hid hsm
 have HBD := hid hbd
 clear hV h hl hsm hbd
 have hmm : ∀ w, (Instr.makeMap 80 (some (.int .i64 (2 * (n : Int))))).run Tryz.prog w = .ok (.map (some w.heap.size)) (w.alloc (.map #[] 0)) := fun w => by have := run_makeHint14 (2 * n) w; rwa [show ((2 * n : Nat) : Int) = 2 * (n : Int) by omega] at this
 go_enter Tryz.func10, Tryz.ntmps10
 go_wp2_with fail
 clear hmm
 go_loopw [15] (fun i wr => ∃ k : Nat, k ≤ n ∧ i = .int .i64 k ∧ Hid (∀ i, i < k → deedB (ts.getD i tk0) = true) ∧ Hid (wr.ownsMap Tryz.prog 3 (unitElem (H := Unit)) w.heap.size (2 * k) (momS (tmL (ts.take k)))) ∧ Hid (Below w.heap.size w wr)) (fun i _ => n - (intOf i).toNat)
 case atStart => exact ⟨0, Nat.zero_le _, rfl, hid (fun i hi => by omega), hid (World.ownsMap_made _ _ _ _), hid (Below.alloc1 _ _)⟩
 case round =>
  obtain ⟨k, hk, rfl, HA, HM, HB⟩ := hrel
  by_cases hlt : k < n
  · have hlt' : (k : Int) < (n : Int) := by omega
    have hk0 : (0 : Int) ≤ (k : Int) := by omega
    obtain ⟨b, off, a1, c1, a2, c2, rfl, bx0, r1, _, r2, _⟩ := HRT.out.at (k := k) (by have := HL.out; omega)
    obtain ⟨y0, y1, y2, y4, y5⟩ := bx0.below HB.out (Nat.le_refl _)
    have HSk := hid (HSM.out k)
    have HBk := hid (HBD.out k)
    have HBad := hid (fun q => deedsB_bad (ts := ts) (i := k) (by have := HL.out; omega) q)
    have HNx := hid (fun (g : deedB (ts.getD k tk0) = true) i (hi : i < k + 1) => show deedB (ts.getD i tk0) = true from by
     by_cases hc : i < k
     · exact HA.out i hc
     · have : i = k := by omega
       subst this
       exact g)
    have HSu := hid (tmL_succ ts (k := k) (by have := HL.out; omega))
    generalize ts.getD k tk0 = t at *
    obtain ⟨xi, be, en, al, rs, ws, inn, ou⟩ := t
    simp only at y0 y1 y2 y4 y5 r1 r2 HSu HBk
    obtain ⟨L, hL⟩ : ∃ L, tmL (ts.take k) = L := ⟨_, rfl⟩
    rw [hL] at HM HSu
    clear hL
    obtain ⟨n1, hn1⟩ : ∃ n, rs.length = n := ⟨_, rfl⟩
    obtain ⟨n2, hn2⟩ : ∃ n, ws.length = n := ⟨_, rfl⟩
    rw [hn1] at y4
    rw [hn2] at y5
    have HN := hid (And.intro hn1 hn2)
    have bA := Below.alloc1 wr (.cells #[.int .i64 xi, .int .i64 be, .int .i64 en, .slice a1 n1 c1, .slice a2 n2 c2] 68)
    have HBA := hid (HB.out.trans (bA.mono HB.out.size))
    have HX := hid (BoxV.row (heap_alloc_new wr (.cells #[.int .i64 xi, .int .i64 be, .int .i64 en, .slice a1 n1 c1, .slice a2 n2 c2] 68)))
    have HMA := hid (HM.out.alloc (.cells #[.int .i64 xi, .int .i64 be, .int .i64 en, .slice a1 n1 c1, .slice a2 n2 c2] 68))
    have HZ := hid (alloc_size wr (.cells #[.int .i64 xi, .int .i64 be, .int .i64 en, .slice a1 n1 c1, .slice a2 n2 c2] 68))
    have HR1 := hid (r1.below HBA.out (Nat.le_refl _))
    have HR2 := hid (r2.below HBA.out (Nat.le_refl _))
    have HML := hid HM.out.lt
    clear bx0 r1 r2 hn1 hn2 bA HM
    go_wp2_with fail
    clear y0 y1 y2 y4 y5
    refine (impl_isDeed xi be en al inn ou c1 c2 HR1.out HN.out.1 HSk.out.1 HR2.out HN.out.2 HSk.out.2).mono ?_
    rintro e w1 ⟨rfl, b1⟩
    have HX1 := hid (HX.out.below b1 (Nat.le_refl _))
    have HM1 := hid (HMA.out.kept (row := none) ⟨b1.os, b1.tape, b1.output, b1.size, fun k hk _ => b1.block k hk⟩ (by simp))
    have HB1 := hid (HBA.out.trans (b1.mono HBA.out.size))
    have HW1 := hid (show wr.heap.size < w1.heap.size by have := HZ.out; have := b1.size; omega)
    clear b1 HBA HX HMA
    cases hv : deedB ⟨xi, be, en, al, rs, ws, inn, ou⟩ with
    | false =>
     have HF := hid (show V = false by rw [← HVV.out]; exact HBad.out hv)
     clear hv
     go_wp2_with fail
     go_ret
     exact ⟨by rw [HF.out]; rfl, HB1.out⟩
    | true =>
     have HN2 := hid (HNx.out hv)
     have x1 := HX1.out.c1
     have hkey1 : keyOf Tryz.prog 3 (.int .i64 be) = some (.int .i64 be) := keyOf_int_mk Tryz.underlying3 (wf_bd14 HBk.out.2.1)
     have hkey2 : keyOf Tryz.prog 3 (.int .i64 en) = some (.int .i64 en) := keyOf_int_mk Tryz.underlying3 (wf_bd14 HBk.out.2.2)
     clear hv
     go_wp2_with (first
      | (at_mapUpdate; refine wpList_mapUpdate_own _ rfl _ _ _ 80 rfl 3 82 law14 Tryz.underlying80 (unitElem (H := Unit)) w.heap.size (2 * k) _ rfl HM1.out (by unfold maxLen; omega) _ _ _ rfl rfl hkey1 _ [] unitElem_mk ?_; intro w2 hown1 hgrow1; have x2 := (hgrow1.cell HX1.out.c2 (fun e => by have h1 := HML.out; have e' : wr.heap.size = w.heap.size := Option.some.inj e; omega)))
      | (at_mapUpdate; refine wpList_mapUpdate_own _ rfl _ _ _ 80 rfl 3 82 law14 Tryz.underlying80 (unitElem (H := Unit)) w.heap.size (2 * k + 1) _ rfl hown1 (by unfold maxLen; omega) _ _ _ rfl rfl hkey2 _ [] unitElem_mk ?_; intro w3 hown2 hgrow2))
     have N1 := hid (HB1.out.grown hgrow1 HB1.out.size (fun j hj => by cases hj; exact Nat.le_refl _))
     have M2 := hid (show w3.ownsMap Tryz.prog 3 (unitElem (H := Unit)) w.heap.size (2 * (k + 1)) (momS (tmL (ts.take (k + 1)))) by rw [HSu.out, mom_snoc, mom_snoc]; exact hown2)
     have N2 := hid (N1.out.grown hgrow2 N1.out.size (fun j hj => by cases hj; exact Nat.le_refl _))
     clear x1 x2 hown1 hgrow1 hown2 hgrow2
     go_roundw
     case rel => exact ⟨k + 1, by omega, by go_num, HN2, M2, N2⟩
     case measure => simp [intOf]; omega
  · have hlt' : ¬ (k : Int) < (n : Int) := by omega
    have hkn : k = n := by omega
    subst hkn
    have HTk := hid (show ts.take k = ts from List.take_of_length_le (by have := HL.out; omega))
    rw [HTk.out] at HM
    have HTL := hid (show (tmL ts).length = 2 * k by rw [tmL_len, HL.out])
    obtain ⟨z, hz⟩ : ∃ z, Maps.size (momS (tmL ts)) = z := ⟨_, rfl⟩
    have hzl : z ≤ 2 * k := by have := size_mom_le (tmL ts); have := HTL.out; omega
    have HE := hid (show deedsB ts = decide (z = 2 * k) by
     by_cases e : z = 2 * k
     · rw [decide_eq_true e]
       exact deedsB_yes ⟨by have := HL.out; omega, fun i hi => HA.out i (by have := HL.out; omega), (size_mom _).1 (by rw [hz, HTL.out]; exact e)⟩
     · rw [decide_eq_false e]
       exact deedsB_no (fun q => e (by rw [← hz, (size_mom _).2 q.2.2, HTL.out])))
    have HZ := hid hz
    have hb : ((z : Int) == 2 * (k : Int)) = decide (z = 2 * k) := by
     rw [Bool.eq_iff_iff, decide_eq_true_iff, beq_iff_eq]; omega
    clear hz
    go_wp2_with (at_len; refine wpList_len_own _ rfl _ 80 rfl 3 82 Tryz.underlying80 (unitElem (H := Unit)) w.heap.size (2 * k) _ rfl HM.out ?_; rw [HZ.out])
    go_ret
    exact ⟨by rw [← HVV.out, HE.out]; first | rfl | (simp only [hb]), HB.out⟩
end Go.Proofs.YtjcjoabblafboaaGreat
/- Whether deeds read the same in an order: plain, and the contract of the program's GraphSerial. Conditions: texts of at most 2^21 bytes. -/


namespace Go.Proofs.YtjcjoabblafboaaGreat
open Go.RowKit
set_option maxRecDepth 100000
def wrsOf (ts : List Tk) (x : Im) : List Nat := (List.range ts.length).filter (fun p => wrB (ts.getD p tk0) x)
def endsOf (ts : List Tk) : List Int := ts.map (·.ended)
def sameR (ts : List Tk) (O : List Int) (d : Nat) (x : Im) : Prop := lastW (trn O ts.length) (tI O (d : Int)) (wrsOf ts x) = lastW (endsOf ts) (ts.getD d tk0).begun (wrsOf ts x)
def serP (ts : List Tk) (O : List Int) : Prop := okDs ts ∧ isOrd O ts.length ∧ ∀ d, d < ts.length → ∀ t ∈ ts, ∀ x ∈ t.ws, rdB (ts.getD d tk0) x = true → sameR ts O d x
open Classical in
noncomputable def serB (ts : List Tk) (O : List Int) : Bool := decide (serP ts O)
theorem serB_yes {ts : List Tk} {O : List Int} (h : serP ts O) : serB ts O = true := by simp [serB, h]
theorem serB_no {ts : List Tk} {O : List Int} (h : ¬ serP ts O) : serB ts O = false := by simp [serB, h]
theorem inM_same {p : Im × Im} {x y : Im} (h1 : okM p.1 = true) (h2 : okM p.2 = true) (hx : okM x = true) (hy : okM y = true) (h : cmpM y x = 0) : inM p x = inM p y := by
 rw [inM_iff h1 h2 hx, inM_iff h1 h2 hy]
 have e1 := cmpM_eq hy hx h2 h
 have e2 := cmpM_eq hy hx h1 h
 have a1 := cmpM_anti h1 hx
 have a2 := cmpM_anti h1 hy
 rw [Bool.eq_iff_iff, decide_eq_true_iff, decide_eq_true_iff]
 constructor <;> (rintro ⟨b1, b2⟩; exact ⟨by omega, by omega⟩)
theorem anyS_same {rs : List (Im × Im)} {x y : Im} (h : ∀ p ∈ rs, spB p = true) (hx : okM x = true) (hy : okM y = true) (e : cmpM y x = 0) : anyS rs x = anyS rs y := by
 unfold anyS
 rw [Bool.eq_iff_iff, List.any_eq_true, List.any_eq_true]
 constructor
 · rintro ⟨p, hp, q⟩
   exact ⟨p, hp, by rw [← inM_same (spB_ok (h p hp)).1 (spB_ok (h p hp)).2.1 hx hy e]; exact q⟩
 · rintro ⟨p, hp, q⟩
   exact ⟨p, hp, by rw [inM_same (spB_ok (h p hp)).1 (spB_ok (h p hp)).2.1 hx hy e]; exact q⟩
theorem okDs_mem {ts : List Tk} (h : okDs ts) {t : Tk} (ht : t ∈ ts) : (∀ p ∈ t.rs, spB p = true) ∧ ∀ x ∈ t.ws, okM x = true := by
 obtain ⟨i, hi, rfl⟩ := List.getElem_of_mem ht
 have := okDs_at h hi
 rw [show ts.getD i tk0 = ts[i] by simp [List.getD, hi]] at this
 exact ⟨this.2.2.1, this.2.2.2⟩
theorem getD_tk {ts : List Tk} {i : Nat} (h : i < ts.length) : ts.getD i tk0 ∈ ts := by
 rw [show ts.getD i tk0 = ts[i] by simp [List.getD, h]]; exact List.getElem_mem h
section
variable {ts : List Tk} {ks : List Im} (hok : okDs ts)
include hok
theorem wr_same {x y : Im} (hx : okM x = true) (hy : okM y = true) (e : cmpM y x = 0) : wrsOf ts x = wrsOf ts y := by
 unfold wrsOf
 refine List.filter_congr (fun p hp => ?_)
 have := okDs_mem hok (getD_tk (List.mem_range.1 hp))
 exact anyS_same (dupM_ok this.2) hx hy e
theorem rd_same {x y : Im} (hx : okM x = true) (hy : okM y = true) (e : cmpM y x = 0) {d : Nat} (hd : d < ts.length) : rdB (ts.getD d tk0) x = rdB (ts.getD d tk0) y :=
 anyS_same (okDs_mem hok (getD_tk hd)).1 hx hy e
theorem ser_keys (hk : KeysOf ts ks) (O : List Int) : (∀ d, d < ts.length → ∀ t ∈ ts, ∀ x ∈ t.ws, rdB (ts.getD d tk0) x = true → sameR ts O d x) ↔ ∀ i, i < ks.length → ∀ d ∈ useL ts ks ts.length (i * 2 + 1), sameR ts O d (ks.getD i im0) := by
 have hu : ∀ i d, d ∈ useL ts ks ts.length (i * 2 + 1) ↔ d < ts.length ∧ rdB (ts.getD d tk0) (ks.getD i im0) = true := by
  intro i d
  unfold useL useB
  rw [List.mem_filter, List.mem_range, if_neg (by omega), show (i * 2 + 1) / 2 = i by omega]
 constructor
 · intro h i hi d hd
   obtain ⟨h1, h2⟩ := (hu i d).1 hd
   have hm : ks.getD i im0 ∈ ks := by rw [show ks.getD i im0 = ks[i] by simp [List.getD, hi]]; exact List.getElem_mem hi
   obtain ⟨t, ht, hx⟩ := hk.frm _ hm
   exact h d h1 t ht _ hx h2
 · intro h d hd t ht x hx hr
   have ox := (okDs_mem hok ht).2 x hx
   obtain ⟨y, hy, e⟩ := hk.cov t ht x hx
   have oy := hk.ok y hy
   obtain ⟨i, hi, hi2⟩ := List.getElem_of_mem hy
   have hgi : ks.getD i im0 = y := by rw [← hi2]; simp [List.getD, hi]
   have := h i hi d ((hu i d).2 ⟨hd, by rw [hgi, ← rd_same hok ox oy e hd]; exact hr⟩)
   rw [hgi] at this
   unfold sameR at *
   rw [wr_same hok ox oy e]
   exact this
end
theorem use_wr {ts : List Tk} {ks : List Im} (i : Nat) : useL ts ks ts.length (i * 2) = wrsOf ts (ks.getD i im0) := by
 unfold useL wrsOf
 refine List.filter_congr (fun p _ => ?_)
 unfold useB
 rw [if_pos (by omega), show i * 2 / 2 = i by omega]
theorem useL_lt {ts : List Tk} {ks : List Im} {n q d : Nat} (h : d ∈ useL ts ks n q) : d < n := by
 unfold useL at h
 rw [List.mem_filter, List.mem_range] at h
 exact h.1
theorem ends_at {ts : List Tk} {i : Nat} (h : i < ts.length) : (endsOf ts).getD i 0 = (ts.getD i tk0).ended := by simp [endsOf, List.getD, h]
theorem ends_take {ts : List Tk} {k : Nat} (h : k < ts.length) : endsOf (ts.take (k + 1)) = endsOf (ts.take k) ++ [(ts.getD k tk0).ended] := by
 unfold endsOf
 rw [take_tk ts h, List.map_append]; rfl
theorem ends_bd {ts : List Tk} (h : bdTs ts) (i : Nat) : -9223372036854775808 ≤ (endsOf ts).getD i 0 ∧ (endsOf ts).getD i 0 ≤ 9223372036854775807 := by
 by_cases hi : i < ts.length
 · rw [ends_at hi]; exact (h i).2.2
 · rw [show (endsOf ts).getD i 0 = 0 by simp [endsOf, List.getD, hi]]; omega
theorem tI_bd {O : List Int} (x : Int) (h : O.length ≤ 100) : -1 ≤ tI O x ∧ tI O x ≤ 100 := by
 unfold tI
 split
 · have := List.idxOf_le_length (a := x) (l := O); omega
 · omega
theorem trn_bd {O : List Int} {n : Nat} (h : O.length ≤ 100) (i : Nat) : -9223372036854775808 ≤ (trn O n).getD i 0 ∧ (trn O n).getD i 0 ≤ 9223372036854775807 := by
 by_cases hi : i < n
 · rw [trn_at O hi]; have := tI_bd (i : Int) h; omega
 · rw [show (trn O n).getD i 0 = 0 by simp [trn, List.getD, hi]]; omega
theorem nI_bd {P : List Nat} (h : ∀ p ∈ P, p < 1048576) (i : Nat) : -9223372036854775808 ≤ (nI P).getD i 0 ∧ (nI P).getD i 0 ≤ 9223372036854775807 := by
 by_cases hi : i < P.length
 · have : (nI P).getD i 0 = ((P[i] : Nat) : Int) := by simp [nI, List.getD, hi]
   rw [this]
   have := h _ (List.getElem_mem hi)
   omega
 · rw [show (nI P).getD i 0 = 0 by simp [nI, List.getD, hi]]; omega
theorem own_readsI {w : World} {base n m c : Nat} {a : Option Addr} {zs : List Int} (o : w.ownsRow base 3 1 (.slice a m c) n (ins zs)) (hb : ∀ i, -9223372036854775808 ≤ zs.getD i 0 ∧ zs.getD i 0 ≤ 9223372036854775807) : ReadsI w a n zs := by
 refine ⟨by have := o.1; rw [ins_length] at this; omega, ?_, hb⟩
 rcases o.2 with ⟨e, h0⟩ | ⟨g, cap, cur, e, _⟩
 · exact .inl h0
 · obtain ⟨rfl, e2, rfl⟩ := Value.slice.inj e
   subst e2
   refine .inr ⟨g, 0, rfl, fun i hi => ?_⟩
   rw [Nat.zero_add, o.cellAt i (by omega), getD_ins, List.getD_eq_getElem?_getD]
   have hl : i < zs.length := by have := o.1; rw [ins_length] at this; omega
   rw [List.getElem?_eq_getElem hl]; rfl
end Go.Proofs.YtjcjoabblafboaaGreat
/- The contract of the specification's l14take. Conditions: at most 100 deeds, 2^21 edges among them. -/



namespace Go.Proofs.YtjcjoabblafboaaGreat
open Go.RowKit
set_option maxRecDepth 100000
def canB (E : List Pr) (lf : List Bool) (d : Nat) : Bool := lf.getD d false && !(ahV E lf d).2
def tkS (n : Nat) (E : List Pr) : Nat → List Nat → List Bool → List Nat × List Bool
 | 0, T, lf => (T, lf)
 | f + 1, T, lf => match (List.range n).find? (canB E lf) with
  | none => (T, lf)
  | some d => tkS n E f (T ++ [d]) (lf.set d false)
theorem tkS_none {n : Nat} {E : List Pr} {T : List Nat} {lf : List Bool} (h : ∀ d, d < n → canB E lf d = false) : ∀ f, tkS n E f T lf = (T, lf)
 | 0 => rfl
 | f + 1 => by
  have e : (List.range n).find? (canB E lf) = none := by
   rw [List.find?_eq_none]
   intro d hd
   simp [h d (List.mem_range.1 hd)]
  unfold tkS
  rw [e]
theorem tkS_some {n : Nat} {E : List Pr} {T : List Nat} {lf : List Bool} {d : Nat} (hd : d < n) (h1 : canB E lf d = true) (h : ∀ e, e < d → canB E lf e = false) (f : Nat) : tkS n E (f + 1) T lf = tkS n E f (T ++ [d]) (lf.set d false) := by
 have e : (List.range n).find? (canB E lf) = some d := by
  rw [List.find?_eq_some_iff_getElem]
  exact ⟨h1, d, by simpa using hd, by simp, fun j hj => by simp [h j hj]⟩
 rw [tkS, e]
end Go.Proofs.YtjcjoabblafboaaGreat
/- The contract of the specification's l14take. Conditions: at most 100 deeds, 2^21 edges among them. -/

namespace Go.Proofs.YtjcjoabblafboaaGreat
open Go.RowKit
set_option maxRecDepth 100000
end Go.Proofs.YtjcjoabblafboaaGreat
/- Edges kept as maps: plain, in memory, and the contract of the program's add. Conditions: at most 100 deeds. -/

namespace Go.Proofs.YtjcjoabblafboaaGreat
open Go.RowKit Go.Maps
set_option maxRecDepth 100000
abbrev Eds := Nat → List Int
def stW (ts : List Tk) (p : Nat) (R : Eds) (o : Nat) : Eds := if (ts.getD p tk0).ended < (ts.getD o tk0).ended then upd R p (R p ++ [(o : Int)]) else R
def stR (ts : List Tk) (p : Nat) (R : Eds) (r : Nat) : Eds := if (ts.getD p tk0).ended < (ts.getD r tk0).begun then upd R p (R p ++ [(r : Int)]) else if p ≠ r then upd R r (R r ++ [(p : Int)]) else R
def adW (ts : List Tk) (W Rd : List Nat) (R : Eds) (p : Nat) : Eds := Rd.foldl (stR ts p) (W.foldl (stW ts p) R)
def adK (ts : List Tk) (W Rd : List Nat) (R : Eds) : Eds := W.foldl (adW ts W Rd) R
theorem fold_nat {β : Type} (f : β → Nat → β) (b : β) (W : List Nat) {k : Nat} (h : k < W.length) : (W.take (k + 1)).foldl f b = f ((W.take k).foldl f b) (W.getD k 0) := by
 rw [take_nat W h, List.foldl_append]; rfl
theorem upd_len (R : Eds) (p : Nat) (x : Int) (i : Nat) : (upd R p (R p ++ [x]) i).length ≤ (R i).length + 1 := by
 unfold upd
 split
 · rename_i h; subst h; simp
 · omega
theorem stW_len (ts : List Tk) (p : Nat) (R : Eds) (o i : Nat) : (stW ts p R o i).length ≤ (R i).length + 1 := by
 unfold stW
 split
 · exact upd_len _ _ _ _
 · omega
theorem stR_len (ts : List Tk) (p : Nat) (R : Eds) (o i : Nat) : (stR ts p R o i).length ≤ (R i).length + 1 := by
 unfold stR
 split
 · exact upd_len _ _ _ _
 · split
   · exact upd_len _ _ _ _
   · omega
theorem fold_len (f : Eds → Nat → Eds) (c : Nat) (hf : ∀ R o i, (f R o i).length ≤ (R i).length + c) : ∀ (W : List Nat) (R : Eds) (i : Nat), (W.foldl f R i).length ≤ (R i).length + W.length * c
 | [], R, i => by simp
 | o :: W, R, i => by
  have h1 := fold_len f c hf W (f R o) i
  have h2 := hf R o i
  rw [List.foldl_cons, List.length_cons, Nat.succ_mul]
  omega
theorem adW_len (ts : List Tk) (W Rd : List Nat) (R : Eds) (p i : Nat) : (adW ts W Rd R p i).length ≤ (R i).length + (W.length + Rd.length) := by
 have h1 := fold_len (stW ts p) 1 (stW_len ts p) W R i
 have h2 := fold_len (stR ts p) 1 (stR_len ts p) Rd (W.foldl (stW ts p) R) i
 unfold adW
 omega
theorem adK_len (ts : List Tk) (W Rd V : List Nat) (R : Eds) (i : Nat) : (V.foldl (adW ts W Rd) R i).length ≤ (R i).length + V.length * (W.length + Rd.length) :=
 fold_len (adW ts W Rd) (W.length + Rd.length) (fun R p i => adW_len ts W Rd R p i) V R i
structure CK (w w' : World) : Prop where
 size : w.heap.size ≤ w'.heap.size
 cells : ∀ (k : Nat) (c : Array Value) (t : TypeId) (f : Nat × Nat), w.heap[k]? = some (.cells c t f) → w'.heap[k]? = some (.cells c t f)
theorem CK.refl (w : World) : CK w w := ⟨Nat.le_refl _, fun _ _ _ _ h => h⟩
theorem CK.trans {a b c : World} (h : CK a b) (k : CK b c) : CK a c := ⟨Nat.le_trans h.size k.size, fun i c t f e => k.cells i c t f (h.cells i c t f e)⟩
theorem CK.below {w w' : World} (h : Below w.heap.size w w') : CK w w' := ⟨h.size, fun k _ _ _ e => (h.block k (Array.getElem?_eq_some_iff.1 e).1).trans e⟩
theorem CK.map {w w' : World} {b : Nat} {es : Array MapEntry} {cl : Nat} (hb : w.heap[b]? = some (.map es cl)) (h : w.grownBy w' (some b)) : CK w w' :=
 ⟨h.size, fun k _ _ _ e => (h.block k (Array.getElem?_eq_some_iff.1 e).1 (fun q => by
  obtain rfl := Option.some.inj q
  rw [hb] at e; cases e)).trans e⟩
theorem CK.cell {w w' : World} (h : CK w w') {a : Addr} {v : Value} (hc : w.cell? a = some v) : w'.cell? a = some v := by
 unfold World.cell? at hc ⊢
 cases hh : w.heap[a.block]? with
 | none => rw [hh] at hc; cases hc
 | some o =>
  cases o with
  | cells c t f => rw [hh] at hc; rw [h.cells _ _ _ _ hh]; exact hc
  | _ => rw [hh] at hc; cases hc
theorem ReadsI.ck {w w' : World} {ad : Option Addr} {n : Nat} {zs : List Int} (h : ReadsI w ad n zs) (k : CK w w') : ReadsI w' ad n zs := by
 refine ⟨h.len, ?_, h.bd⟩
 rcases h.cells with h0 | ⟨b, off, rfl, hc⟩
 · exact .inl h0
 · exact .inr ⟨b, off, rfl, fun i hi => k.cell (hc i hi)⟩
theorem owns_ck {w w' : World} {base : Nat} {e : TypeId} {s n : Nat} {v : Value} {xs : List Value} (o : w.ownsRow base e s v n xs) (k : CK w w') : w'.ownsRow base e s v n xs := by
 refine ⟨o.1, ?_⟩
 rcases o.2 with h | ⟨g, cap, cur, e1, hb, hh, r⟩
 · exact .inl h
 · exact .inr ⟨g, cap, cur, e1, hb, k.cells _ _ _ _ hh, r⟩
structure EdM (w : World) (base g n : Nat) (M : Nat → Nat) (R : Eds) : Prop where
 row : w.ownsRow base 80 1 (.slice (some ⟨g, 0, none⟩) n n) n ((List.range n).map (fun i => Value.map (some (M i))))
 map : ∀ i, i < n → w.ownsMap Tryz.prog 3 (unitElem (H := Unit)) (M i) (R i).length (momS (R i))
 low : ∀ i, i < n → base ≤ M i
 inj : ∀ i j, i < n → j < n → i ≠ j → M i ≠ M j
section
variable {w w' : World} {base g n : Nat} {M : Nat → Nat} {R : Eds}
theorem EdM.below (h : EdM w base g n M R) (hb : Below w.heap.size w w') : EdM w' base g n M R :=
 ⟨owns_below hb (Nat.le_refl _) h.row, fun i hi => (h.map i hi).kept (row := none) ⟨hb.os, hb.tape, hb.output, hb.size, fun k hk _ => hb.block k hk⟩ (by simp), h.low, h.inj⟩
theorem EdM.cell (h : EdM w base g n M R) {i : Nat} (hi : i < n) : w.cell? ⟨g, i, none⟩ = some (.map (some (M i))) := by
 rw [h.row.cellAt i (by omega)]; simp [hi]
theorem EdM.isMap (h : EdM w base g n M R) {i : Nat} (hi : i < n) : ∃ es cl, w.heap[M i]? = some (.map es cl) := by
 obtain ⟨es, clock, hb, _⟩ := h.map i hi
 exact ⟨es, clock, hb⟩
theorem EdM.ck (h : EdM w base g n M R) {i : Nat} (hi : i < n) (gr : w.grownBy w' (some (M i))) : CK w w' := by
 obtain ⟨es, cl, hb⟩ := h.isMap hi
 exact CK.map hb gr
theorem EdM.put (h : EdM w base g n M R) {i : Nat} (hi : i < n) {x : Int} (o : w'.ownsMap Tryz.prog 3 (unitElem (H := Unit)) (M i) ((R i).length + 1) ((momS (R i)).put (.int .i64 x) (.agg []))) (gr : w.grownBy w' (some (M i))) : EdM w' base g n M (upd R i (R i ++ [x])) := by
 refine ⟨owns_ck h.row (h.ck hi gr), fun j hj => ?_, h.low, h.inj⟩
 by_cases e : j = i
 · subst e
   rw [upd_same, List.length_append, mom_snoc]
   exact o
 · rw [upd_other _ _ e]
   exact (h.map j hj).kept gr (fun q => h.inj j i hj hi e (Option.some.inj q))
end
theorem nI_at {P : List Nat} {k : Nat} (h : k < P.length) : (nI P).getD k 0 = ((P.getD k 0 : Nat) : Int) := by simp [nI, List.getD, h]
theorem getD_nat {P : List Nat} {k : Nat} (h : k < P.length) : P.getD k 0 ∈ P := by
 rw [show P.getD k 0 = P[k] by simp [List.getD, h]]; exact List.getElem_mem h
set_option maxHeartbeats 25600000 in
theorem impl_add {w0 w : World} {a : Option Addr} {n : Nat} (c : Nat) {ts : List Tk} (h : RdV w0 a ts) (hl : ts.length = n) (hn : n ≤ 100) (hb0 : Below w0.heap.size w0 w) {g : Nat} {M : Nat → Nat} {R : Eds} (hE : EdM w w0.heap.size g n M R) {W Rd : List Nat} {aw ar : Option Addr} {nw nr : Nat} (cw cr : Nat) (hW : ReadsI w aw nw (nI W)) (hR : ReadsI w ar nr (nI Rd)) (hWb : ∀ p ∈ W, p < n) (hRb : ∀ p ∈ Rd, p < n) (hnw : nw ≤ 100) (hnr : nr ≤ 100) (B : Nat) (hB : B ≤ 1000000000) (hRl : ∀ i, (R i).length ≤ B) :
 Calls Tryz.prog 87 #[.slice (some ⟨g, 0, none⟩) n n, .slice a n c, .agg #[.slice aw nw cw, .slice ar nr cr]] w fun e w' => e = .returned (.tuple #[]) ∧ EdM w' w0.heap.size g n M (adK ts W Rd R) ∧ CK w w' ∧ Below w0.heap.size w0 w' := by
 have hWl : W.length = nw := by rw [← nI_len]; exact hW.len
 have hRln : Rd.length = nr := by rw [← nI_len]; exact hR.len
 obtain ⟨gb, hgb⟩ : ∃ gb, w.heap.size = gb := ⟨_, rfl⟩
 have bA := Below.alloc1 w (.cells #[.slice aw nw cw, .slice ar nr cr] 91)
 have HD := hid h
 have HL := hid hl
 have HWr := hid (hW.below bA (Nat.le_refl _))
 have HRr := hid (hR.below bA (Nat.le_refl _))
 have HWb := hid hWb
 have HRb := hid hRb
 have HRl := hid hRl
 have HE0 := hid (hE.below bA)
 have HC0 := hid (CK.below bA)
 have HB0 := hid (hb0.trans (bA.mono hb0.size))
 have HX0 := hid (show (w.alloc (.cells #[.slice aw nw cw, .slice ar nr cr] 91)).heap[gb]? = some (.cells #[.slice aw nw cw, .slice ar nr cr] 91) by rw [← hgb]; exact heap_alloc_new w _)
 have HGb := hid hgb
 have HEn := hid (fun p (hp : p < n) (W' : World) (hb : Below w0.heap.size w0 W') => show ∃ b off, a = some ⟨b, off, none⟩ ∧ W'.cell? ⟨b, off + p * 5 + 1, none⟩ = some (.int .i64 (ts.getD p tk0).begun) ∧ W'.cell? ⟨b, off + p * 5 + 2, none⟩ = some (.int .i64 (ts.getD p tk0).ended) by
  obtain ⟨b, off, _, _, _, _, e, bx, _⟩ := h p (by omega)
  have q := bx.below hb (Nat.le_refl _)
  exact ⟨b, off, e, q.c1, q.c2⟩)
 clear bA h hl hb0 hE hW hR hWb hRb hRl hgb
 go_enter Tryz.func87, Tryz.ntmps87
 go_wp2_with fail
 try simp only [HGb.out]
 obtain ⟨w1, hw1⟩ : ∃ w1, w.alloc (.cells #[.slice aw nw cw, .slice ar nr cr] 91) = w1 := ⟨_, rfl⟩
 rw [hw1] at HWr HRr HE0 HC0 HB0 HX0
 try rw [hw1]
 clear hw1
 go_loopw [15] (fun s wr => ∃ t : Nat, t ≤ nw ∧ s = .int .i64 t ∧ Hid (EdM wr w0.heap.size g n M ((W.take t).foldl (adW ts W Rd) R)) ∧ Hid (CK w1 wr) ∧ Hid (Below w0.heap.size w0 wr)) (fun s _ => nw - (intOf s).toNat)
 case atStart => exact ⟨0, Nat.zero_le _, rfl, hid (by simpa using HE0.out), hid (CK.refl _), HB0⟩
 case round =>
  clear HE0 HB0
  obtain ⟨t, ht, rfl, HE, HC, HB⟩ := hrel
  obtain ⟨hx0, hx1⟩ : wr.cell? ⟨gb, 0, none⟩ = some (.slice aw nw cw) ∧ wr.cell? ⟨gb, 1, none⟩ = some (.slice ar nr cr) := by
   have r := HC.out.cells _ _ _ _ HX0.out
   exact ⟨by rw [cell_of_row _ _ _ _ _ _ r]; rfl, by rw [cell_of_row _ _ _ _ _ _ r]; rfl⟩
  by_cases hlt : t < nw
  · have hlt' : (t : Int) < (nw : Int) := by omega
    have ht0 : (0 : Int) ≤ (t : Int) := by omega
    have htW : t < W.length := by omega
    obtain ⟨bw, ow, ew, hcw⟩ := readsI_at (HWr.out.ck HC.out) hlt
    rw [nI_at htW] at hcw
    have hpn := HWb.out _ (getD_nat htW)
    have HFo := hid (fold_nat (adW ts W Rd) R W htW)
    have HLn := hid (fun i => adK_len ts W Rd (W.take t) R i)
    generalize W.getD t 0 = p at *
    subst ew
    obtain ⟨bd, od, ed, -, -⟩ := HEn.out p hpn wr HB.out
    subst ed
    have HCl := hid (fun q (hq : q < n) (W' : World) (hb : Below w0.heap.size w0 W') => show W'.cell? ⟨bd, od + q * 5 + 1, none⟩ = some (.int .i64 (ts.getD q tk0).begun) ∧ W'.cell? ⟨bd, od + q * 5 + 2, none⟩ = some (.int .i64 (ts.getD q tk0).ended) by
     obtain ⟨b2, o2, e2, h1, h2⟩ := HEn.out q hq W' hb
     obtain ⟨rfl, rfl⟩ : bd = b2 ∧ od = o2 := by simpa using e2
     exact ⟨h1, h2⟩)
    have hp' : (p : Int) < (n : Int) := by omega
    have hp0 : (0 : Int) ≤ (p : Int) := by omega
    obtain ⟨R1, hR1⟩ : ∃ R1, (W.take t).foldl (adW ts W Rd) R = R1 := ⟨_, rfl⟩
    rw [hR1] at HE HFo HLn
    have HB1 := hid (fun i => show (R1 i).length ≤ B + 20000 by
     have h1 := HLn.out i
     have h2 := HRl.out i
     have h3 : (W.take t).length * (W.length + Rd.length) ≤ 100 * 200 := Nat.mul_le_mul (by rw [List.length_take]; omega) (by omega)
     omega)
    clear hR1 HLn
    go_wp2_with fail
    clear hx0 hx1 hcw
    go_loopw [22] (fun s wq => ∃ k : Nat, k ≤ nw ∧ s = .int .i64 k ∧ Hid (EdM wq w0.heap.size g n M ((W.take k).foldl (stW ts p) R1)) ∧ Hid (CK w1 wq) ∧ Hid (Below w0.heap.size w0 wq)) (fun s _ => nw - (intOf s).toNat)
    case atStart => exact ⟨0, Nat.zero_le _, rfl, hid (by simpa using HE.out), HC, HB⟩
    case round =>
     clear HE HC HB
     obtain ⟨k, hk, rfl, HE, HC, HB⟩ := hrel
     obtain ⟨wo, hwo⟩ : ∃ wo, wo = wr := ⟨_, rfl⟩
     subst hwo
     by_cases hkw : k < nw
     · have hkw' : (k : Int) < (nw : Int) := by omega
       have hk0 : (0 : Int) ≤ (k : Int) := by omega
       have hkW : k < W.length := by omega
       obtain ⟨b2, o2, e2, hck⟩ := readsI_at (HWr.out.ck HC.out) hkw
       obtain ⟨rfl, rfl⟩ : bw = b2 ∧ ow = o2 := by simpa using e2
       rw [nI_at hkW] at hck
       have hon := HWb.out _ (getD_nat hkW)
       have HF2 := hid (fold_nat (stW ts p) R1 W hkW)
       have HLn := hid (fun i => fold_len (stW ts p) 1 (stW_len ts p) (W.take k) R1 i)
       generalize W.getD k 0 = q at *
       have hq' : (q : Int) < (n : Int) := by omega
       have hq0 : (0 : Int) ≤ (q : Int) := by omega
       obtain ⟨-, hcp⟩ := HCl.out p hpn wo HB.out
       obtain ⟨-, hcq⟩ := HCl.out q hon wo HB.out
       obtain ⟨R2, hR2⟩ : ∃ R2, (W.take k).foldl (stW ts p) R1 = R2 := ⟨_, rfl⟩
       rw [hR2] at HE HF2 HLn
       have HBl := hid (show (R2 p).length < 2000000000 by
        have h1 := HLn.out p
        have h2 := HB1.out p
        rw [List.length_take] at h1
        omega)
       have HSt := hid (show stW ts p R2 q = if (ts.getD p tk0).ended < (ts.getD q tk0).ended then upd R2 p (R2 p ++ [(q : Int)]) else R2 from rfl)
       generalize (ts.getD p tk0).ended = xp at *
       generalize (ts.getD q tk0).ended = xq at *
       clear e2 hR2 HLn
       by_cases hlx : xp < xq
       · have hlx' : decide (xp < xq) = true := decide_eq_true hlx
         have hkey : keyOf Tryz.prog 3 (.int .i64 (q : Int)) = some (.int .i64 (q : Int)) := keyOf_int_mk Tryz.underlying3 (wf_bd14 (by omega))
         have HED := hid (HE.out.below ((Below.refl wo.heap.size wo).drew))
         have hcm := HE.out.cell hpn
         have HSu := hid (show (W.take (k + 1)).foldl (stW ts p) R1 = upd R2 p (R2 p ++ [(q : Int)]) by rw [HF2.out, HSt.out, if_pos hlx])
         clear hlx
         go_wp2_with fail
         go_quiet (fail)
         go_wp2_with (at_mapUpdate; refine wpList_mapUpdate_own _ rfl _ _ _ 80 rfl 3 82 law14 Tryz.underlying80 (unitElem (H := Unit)) (M p) (R2 p).length _ rfl ((HE.out.below (bel_dN (Below.refl wo.heap.size wo) _)).map p hpn) (by unfold maxLen; have := HBl.out; omega) _ _ _ rfl rfl hkey _ [] unitElem_mk ?_; intro w5 hown1 hgrow1)
         have HEq := hid (HE.out.below (bel_dN (Below.refl wo.heap.size wo) nq))
         have HCq := hid (HC.out.trans (CK.below (bel_dN (Below.refl wo.heap.size wo) nq)))
         have HBq := hid (bel_dN HB.out nq)
         have HE5 := hid (show EdM w5 w0.heap.size g n M ((W.take (k + 1)).foldl (stW ts p) R1) by rw [HSu.out]; exact HEq.out.put hpn hown1 hgrow1)
         have HC5 := hid (HCq.out.trans (HEq.out.ck hpn hgrow1))
         have HB5 := hid (HBq.out.grown hgrow1 HBq.out.size (fun r e => by cases e; exact HEq.out.low p hpn))
         clear hown1 hgrow1
         go_wp2_with fail
         go_roundw
         case rel => exact ⟨k + 1, by omega, by go_num, HE5, HC5, HB5⟩
         case measure => simp [intOf]; omega
       · have hlx' : decide (xp < xq) = false := decide_eq_false hlx
         have HSu := hid (show (W.take (k + 1)).foldl (stW ts p) R1 = R2 by rw [HF2.out, HSt.out, if_neg hlx])
         clear hlx
         go_wp2_with fail
         go_quiet (fail)
         go_wp2_with fail
         go_roundw
         case rel => exact ⟨k + 1, by omega, by go_num, hid (by rw [HSu.out]; exact HE.out.below (bel_dN (Below.refl _ _) _)), hid (HC.out.trans (CK.below (bel_dN (Below.refl _ _) _))), hid (bel_dN HB.out _)⟩
         case measure => simp [intOf]; omega
     · have hkw' : ¬ (k : Int) < (nw : Int) := by omega
       have HEf := hid (show EdM wo w0.heap.size g n M (W.foldl (stW ts p) R1) by have := HE.out; rwa [List.take_of_length_le (by omega)] at this)
       obtain ⟨R3, hR3⟩ : ∃ R3, W.foldl (stW ts p) R1 = R3 := ⟨_, rfl⟩
       have HB3 := hid (fun i => show (R3 i).length ≤ B + 20100 by
        have h1 := fold_len (stW ts p) 1 (stW_len ts p) W R1 i
        rw [hR3] at h1
        have h2 := HB1.out i
        omega)
       rw [hR3] at HEf
       have HR3 := hid (show adW ts W Rd R1 p = Rd.foldl (stR ts p) R3 by rw [← hR3]; rfl)
       have hx1 : wo.cell? ⟨gb, 1, none⟩ = some (.slice ar nr cr) := by
        have r := HC.out.cells _ _ _ _ HX0.out
        rw [cell_of_row _ _ _ _ _ _ r]; rfl
       clear hR3 HE
       go_wp2_with fail
       clear hx1
       go_loopw [47] (fun s wq => ∃ k : Nat, k ≤ nr ∧ s = .int .i64 k ∧ Hid (EdM wq w0.heap.size g n M ((Rd.take k).foldl (stR ts p) R3)) ∧ Hid (CK w1 wq) ∧ Hid (Below w0.heap.size w0 wq)) (fun s _ => nr - (intOf s).toNat)
       case atStart => exact ⟨0, Nat.zero_le _, rfl, hid (by simpa using HEf.out), HC, HB⟩
       case round =>
        clear HEf HC HB
        obtain ⟨k2, hk2, rfl, HE, HC, HB⟩ := hrel
        obtain ⟨wp, hwp⟩ : ∃ wp, wp = wr := ⟨_, rfl⟩
        subst hwp
        by_cases hkr : k2 < nr
        · have hkr' : (k2 : Int) < (nr : Int) := by omega
          have hk0 : (0 : Int) ≤ (k2 : Int) := by omega
          have hkR : k2 < Rd.length := by omega
          obtain ⟨br, or', er, hck⟩ := readsI_at (HRr.out.ck HC.out) hkr
          rw [nI_at hkR] at hck
          have hon := HRb.out _ (getD_nat hkR)
          have HF2 := hid (fold_nat (stR ts p) R3 Rd hkR)
          have HLn := hid (fun i => fold_len (stR ts p) 1 (stR_len ts p) (Rd.take k2) R3 i)
          generalize Rd.getD k2 0 = q at *
          obtain ⟨ar', har⟩ : ∃ x, ar = x := ⟨_, rfl⟩
          have hq' : (q : Int) < (n : Int) := by omega
          have hq0 : (0 : Int) ≤ (q : Int) := by omega
          obtain ⟨-, hcp⟩ := HCl.out p hpn wp HB.out
          obtain ⟨hcq, -⟩ := HCl.out q hon wp HB.out
          obtain ⟨R2, hR2⟩ : ∃ R2, (Rd.take k2).foldl (stR ts p) R3 = R2 := ⟨_, rfl⟩
          rw [hR2] at HE HF2 HLn
          have HBl := hid (fun i => show (R2 i).length < 2000000000 by
           have h1 := HLn.out i
           have h2 := HB3.out i
           rw [List.length_take] at h1
           omega)
          have HSt := hid (show stR ts p R2 q = if (ts.getD p tk0).ended < (ts.getD q tk0).begun then upd R2 p (R2 p ++ [(q : Int)]) else if p ≠ q then upd R2 q (R2 q ++ [(p : Int)]) else R2 from rfl)
          generalize (ts.getD p tk0).ended = xp at *
          generalize (ts.getD q tk0).begun = xq at *
          subst er
          clear hR2 HLn har
          by_cases hlx : xp < xq
          · have hlx' : decide (xp < xq) = true := decide_eq_true hlx
            have hkey : keyOf Tryz.prog 3 (.int .i64 (q : Int)) = some (.int .i64 (q : Int)) := keyOf_int_mk Tryz.underlying3 (wf_bd14 (by omega))
            have hcm := HE.out.cell hpn
            have HSu := hid (show (Rd.take (k2 + 1)).foldl (stR ts p) R3 = upd R2 p (R2 p ++ [(q : Int)]) by rw [HF2.out, HSt.out, if_pos hlx])
            clear hlx
            go_wp2_with fail
            go_quiet (fail)
            go_wp2_with (at_mapUpdate; refine wpList_mapUpdate_own _ rfl _ _ _ 80 rfl 3 82 law14 Tryz.underlying80 (unitElem (H := Unit)) (M p) (R2 p).length _ rfl ((HE.out.below (bel_dN (Below.refl wp.heap.size wp) _)).map p hpn) (by unfold maxLen; have := HBl.out p; omega) _ _ _ rfl rfl hkey _ [] unitElem_mk ?_; intro w5 hown1 hgrow1)
            have HEq := hid (HE.out.below (bel_dN (Below.refl wp.heap.size wp) nq))
            have HCq := hid (HC.out.trans (CK.below (bel_dN (Below.refl wp.heap.size wp) nq)))
            have HBq := hid (bel_dN HB.out nq)
            have HE5 := hid (show EdM w5 w0.heap.size g n M ((Rd.take (k2 + 1)).foldl (stR ts p) R3) by rw [HSu.out]; exact HEq.out.put hpn hown1 hgrow1)
            have HC5 := hid (HCq.out.trans (HEq.out.ck hpn hgrow1))
            have HB5 := hid (HBq.out.grown hgrow1 HBq.out.size (fun r e => by cases e; exact HEq.out.low p hpn))
            clear hown1 hgrow1
            go_wp2_with fail
            go_roundw
            case rel => exact ⟨k2 + 1, by omega, by go_num, HE5, HC5, HB5⟩
            case measure => simp [intOf]; omega
          · have hlx' : decide (xp < xq) = false := decide_eq_false hlx
            by_cases hpq : p = q
            · have hne : ((p : Int) != (q : Int)) = false := by simpa using (show (p : Int) = (q : Int) by omega)
              have HSu := hid (show (Rd.take (k2 + 1)).foldl (stR ts p) R3 = R2 by rw [HF2.out, HSt.out, if_neg hlx, if_neg (by simpa using hpq)])
              clear hlx hpq
              go_wp2_with fail
              go_quiet (fail)
              go_wp2_with fail
              go_roundw
              case rel => exact ⟨k2 + 1, by omega, by go_num, hid (by rw [HSu.out]; exact HE.out.below (bel_dN (Below.refl _ _) _)), hid (HC.out.trans (CK.below (bel_dN (Below.refl _ _) _))), hid (bel_dN HB.out _)⟩
              case measure => simp [intOf]; omega
            · have hne : ((p : Int) != (q : Int)) = true := by simpa using (show ¬ (p : Int) = (q : Int) by omega)
              have hkey : keyOf Tryz.prog 3 (.int .i64 (p : Int)) = some (.int .i64 (p : Int)) := keyOf_int_mk Tryz.underlying3 (wf_bd14 (by omega))
              have hcm := HE.out.cell hon
              have HSu := hid (show (Rd.take (k2 + 1)).foldl (stR ts p) R3 = upd R2 q (R2 q ++ [(p : Int)]) by rw [HF2.out, HSt.out, if_neg hlx, if_pos hpq])
              clear hlx hpq
              go_wp2_with fail
              go_quiet (fail)
              go_wp2_with (at_mapUpdate; refine wpList_mapUpdate_own _ rfl _ _ _ 80 rfl 3 82 law14 Tryz.underlying80 (unitElem (H := Unit)) (M q) (R2 q).length _ rfl ((HE.out.below (bel_dN (Below.refl wp.heap.size wp) _)).map q hon) (by unfold maxLen; have := HBl.out q; omega) _ _ _ rfl rfl hkey _ [] unitElem_mk ?_; intro w5 hown1 hgrow1)
              have HEq := hid (HE.out.below (bel_dN (Below.refl wp.heap.size wp) nq))
              have HCq := hid (HC.out.trans (CK.below (bel_dN (Below.refl wp.heap.size wp) nq)))
              have HBq := hid (bel_dN HB.out nq)
              have HE5 := hid (show EdM w5 w0.heap.size g n M ((Rd.take (k2 + 1)).foldl (stR ts p) R3) by rw [HSu.out]; exact HEq.out.put hon hown1 hgrow1)
              have HC5 := hid (HCq.out.trans (HEq.out.ck hon hgrow1))
              have HB5 := hid (HBq.out.grown hgrow1 HBq.out.size (fun r e => by cases e; exact HEq.out.low q hon))
              clear hown1 hgrow1
              go_wp2_with fail
              go_roundw
              case rel => exact ⟨k2 + 1, by omega, by go_num, HE5, HC5, HB5⟩
              case measure => simp [intOf]; omega
        · have hkr' : ¬ (k2 : Int) < (nr : Int) := by omega
          have HEn2 := hid (show EdM wp w0.heap.size g n M ((W.take (t + 1)).foldl (adW ts W Rd) R) by
           rw [HFo.out, HR3.out]
           have := HE.out
           rwa [List.take_of_length_le (by omega)] at this)
          go_wp2_with fail
          go_roundw
          case rel => exact ⟨t + 1, by omega, by go_num, HEn2, HC, HB⟩
          case measure => simp [intOf]; omega
  · have hlt' : ¬ (t : Int) < (nw : Int) := by omega
    have HEf := hid (show EdM wr w0.heap.size g n M (adK ts W Rd R) by have := HE.out; rwa [List.take_of_length_le (by omega)] at this)
    go_wp2_with fail
    go_end0
    exact ⟨rfl, HEf.out, HC0.out.trans HC.out, HB.out⟩
end Go.Proofs.YtjcjoabblafboaaGreat
/- The contract of the program's edgesOf. Conditions: the deeds are right. -/

namespace Go.Proofs.YtjcjoabblafboaaGreat
open Go.RowKit Go.Maps
set_option maxRecDepth 100000
def stK (ts : List Tk) (ks : List Im) (R : Eds) (i : Nat) : Eds := adK ts (useL ts ks ts.length (i * 2)) (useL ts ks ts.length (i * 2 + 1)) R
def allE (ts : List Tk) (ks : List Im) (m : Nat) : Eds := (List.range m).foldl (stK ts ks) (fun _ => [])
theorem allE_succ (ts : List Tk) (ks : List Im) (m : Nat) : allE ts ks (m + 1) = stK ts ks (allE ts ks m) m := by
 unfold allE
 rw [List.range_succ, List.foldl_append]; rfl
theorem stK_len (ts : List Tk) (ks : List Im) (hn : ts.length ≤ 100) (R : Eds) (i j : Nat) : (stK ts ks R i j).length ≤ (R j).length + 20000 := by
 have h1 := adK_len ts (useL ts ks ts.length (i * 2)) (useL ts ks ts.length (i * 2 + 1)) (useL ts ks ts.length (i * 2)) R j
 have h2 := useL_len ts ks ts.length (i * 2)
 have h3 := useL_len ts ks ts.length (i * 2 + 1)
 have h4 : (useL ts ks ts.length (i * 2)).length * ((useL ts ks ts.length (i * 2)).length + (useL ts ks ts.length (i * 2 + 1)).length) ≤ 100 * 200 := Nat.mul_le_mul (by omega) (by omega)
 unfold stK adK
 omega
theorem allE_len (ts : List Tk) (ks : List Im) (hn : ts.length ≤ 100) : ∀ m j, (allE ts ks m j).length ≤ m * 20000
 | 0, j => by simp [allE]
 | m + 1, j => by
  have h1 := allE_len ts ks hn m j
  have h2 := stK_len ts ks hn (allE ts ks m) m j
  rw [allE_succ]
  omega
theorem run_makeMap14 (w : World) : (Instr.makeMap 80 none).run Tryz.prog w = .ok (.map (some w.heap.size)) (w.alloc (.map #[] 0)) := by kernel_rfl
theorem Tryz.infoMp : (Tryz.prog.info? 80).map (fun i => (i.zero, i.size, i.bytes)) = some (some (.map none), 1, 8) := by kernel_rfl
structure EdK (w : World) (base g n k : Nat) (M : Nat → Nat) : Prop where
 row : w.ownsRow base 80 1 (.slice (some ⟨g, 0, none⟩) n n) n ((List.range n).map (fun i => if i < k then Value.map (some (M i)) else .map none))
 map : ∀ i, i < k → w.ownsMap Tryz.prog 3 (unitElem (H := Unit)) (M i) 0 (momS [])
 low : ∀ i, i < k → base ≤ M i
 inj : ∀ i j, i < k → j < k → i ≠ j → M i ≠ M j
theorem made_map (n : Nat) : (madeCells #[.map none] n).toList = (List.range n).map (fun _ => Value.map none) := by
 simp only [madeCells, Array.toList_map, Array.toList_range]
 refine List.map_congr_left (fun i _ => ?_)
 show (#[(Value.map none)][i % 1]! : Value) = _
 rw [Nat.mod_one]; rfl
theorem EdK.next {w : World} {base g n k : Nat} {M : Nat → Nat} (h : EdK w base g n k M) (hk : k < n) (hb : base ≤ w.heap.size) : EdK ((w.alloc (.map #[] 0)).setCell ⟨g, k, none⟩ (.map (some w.heap.size))) base g n (k + 1) (upd M k w.heap.size) := by
 have hba := Below.alloc1 w (.map #[] 0)
 have r1 := owns_below hba (Nat.le_refl _) h.row
 have hgl := (h.row.lt g rfl).2
 have hne : w.heap.size ≠ g := by omega
 have hgm : ∀ i, i < k → M i ≠ g := fun i hi e => by
  obtain ⟨es, cl, hb, _⟩ := h.map i hi
  obtain ⟨rest, hr, _⟩ := owns_blk h.row
  rw [e, hr] at hb; cases hb
 refine ⟨?_, fun i hi => ?_, fun i hi => ?_, fun i j hi hj hne => ?_⟩
 · have := row_set r1 (j := k) (by omega) (.map (some w.heap.size))
   have e : ((List.range n).map (fun i => if i < k then Value.map (some (M i)) else .map none)).set k (.map (some w.heap.size)) = (List.range n).map (fun i => if i < k + 1 then Value.map (some (upd M k w.heap.size i)) else .map none) := by
    rw [← map_upd]
    refine List.map_congr_left (fun i _ => ?_)
    unfold upd
    by_cases e : i = k
    · subst e; rw [if_pos rfl, if_pos (by omega), if_pos rfl]
    · rw [if_neg e, if_neg e]
      show (if i < k then Value.map (some (M i)) else .map none) = _
      by_cases q : i < k
      · rw [if_pos q, if_pos (by omega)]
      · rw [if_neg q, if_neg (by omega)]
   rw [e] at this
   exact this
 · by_cases e : i = k
   · subst e
     rw [upd_same]
     exact (World.ownsMap_made w _ _ _).kept (grown_set _ g i _) (fun q => hne (Option.some.inj q))
   · rw [upd_other _ _ e]
     exact ((h.map i (by omega)).alloc _).kept (grown_set _ g k _) (fun q => hgm i (by omega) (Option.some.inj q))
 · by_cases e : i = k
   · subst e; rw [upd_same]; exact hb
   · rw [upd_other _ _ e]; exact h.low i (by omega)
 · have hlt : ∀ i, i < k → M i < w.heap.size := fun i hi => (h.map i hi).lt
   by_cases e1 : i = k
   · subst e1
     rw [upd_same, upd_other _ _ (fun e => hne e.symm)]
     have := hlt j (by omega); omega
   · by_cases e2 : j = k
     · subst e2
       rw [upd_same, upd_other _ _ e1]
       have := hlt i (by omega); omega
     · rw [upd_other _ _ e1, upd_other _ _ e2]
       exact h.inj i j (by omega) (by omega) hne
set_option maxHeartbeats 25600000 in
theorem impl_edgesOf {a : Option Addr} {n : Nat} (c : Nat) {ts : List Tk} {w : World} (h : RdV w a ts) (hl : ts.length = n) (hok : okDs ts) :
 Calls Tryz.prog 41 #[.slice a n c] w fun e w' => ∃ (g : Nat) (M : Nat → Nat) (ks : List Im), e = .returned (.slice (some ⟨g, 0, none⟩) n n) ∧ KeysOf ts ks ∧ EdM w' w.heap.size g n M (allE ts ks ks.length) ∧ Below w.heap.size w w' := by
 have hn : n ≤ 100 := by have := hok.1; omega
 have HR := hid h
 have HL := hid hl
 have HK := hid hok
 clear h hl hok
 obtain ⟨j0, hj, hj0, hj1, hj2⟩ := info_parts Tryz.infoMp
 go_enter Tryz.func41, Tryz.ntmps41
 go_wp2_with (at_make; refine wpList_make_full _ rfl _ _ 77 rfl w.heap.size 80 j0 (.map none) 1 Tryz.underlying77 hj hj0 hj1 _ _ _ _ n rfl rfl (by omega) (by omega) ?b2 ?b3 (Nat.le_refl _) ?_)
 case b2 => rw [hj2]; omega
 case b3 => unfold maxLen; omega
 intro w1 hown0 hgrow0
 obtain ⟨g, hg⟩ : ∃ g, w.heap.size = g := ⟨_, rfl⟩
 have HGe := hid hg
 have HK0 := hid (show EdK w1 w.heap.size w.heap.size n 0 (fun _ => 0) by
  refine ⟨?_, fun i hi => by omega, fun i hi => by omega, fun i j hi => by omega⟩
  have e : (List.range n).map (fun i => if i < 0 then Value.map (some ((fun _ => 0) i)) else .map none) = (madeCells #[.map none] n).toList := by
   rw [made_map]
   refine List.map_congr_left (fun i _ => ?_)
   rw [if_neg (by omega)]
  rw [e]; exact hown0)
 have HB0 := hid ((Below.refl w.heap.size w).grown hgrow0 (Nat.le_refl _) (fun k h => by cases h))
 clear hown0 hgrow0
 try simp only [hg]
 clear hg
 have hmm := run_makeMap14
 go_wp2_with fail
 go_loopw [12] (fun s wr => ∃ (k : Nat) (M : Nat → Nat), k ≤ n ∧ s = .int .i64 k ∧ Hid (EdK wr w.heap.size g n k M) ∧ Hid (Below w.heap.size w wr)) (fun s _ => n - (intOf s).toNat)
 case atStart => exact ⟨0, _, Nat.zero_le _, rfl, hid (by rw [← HGe.out]; exact HK0.out), HB0⟩
 case round =>
  clear HK0 HB0
  obtain ⟨k, M, hk, rfl, HE, HB⟩ := hrel
  by_cases hlt : k < n
  · have hlt' : (k : Int) < (n : Int) := by omega
    have hk0 : (0 : Int) ≤ (k : Int) := by omega
    have r1 := owns_below (Below.alloc1 wr (.map #[] 0)) (Nat.le_refl _) HE.out.row
    have hc : (wr.alloc (.map #[] 0)).cell? ⟨g, k, none⟩ = some (.map none) := by rw [r1.cellAt k (by omega)]; simp [hlt]
    have hfz : (wr.alloc (.map #[] 0)).frozen? ⟨g, k, none⟩ = false := by
     obtain ⟨rest, hr, _⟩ := owns_blk r1
     exact frozen_of_row _ _ _ _ _ hr
    have HE2 := hid (HE.out.next hlt HB.out.size)
    have HB2 := hid (show Below w.heap.size w ((wr.alloc (.map #[] 0)).setCell ⟨g, k, none⟩ (.map (some wr.heap.size))) from (HB.out.alloc HB.out.size _).setCell (p := ⟨g, k, none⟩) (Nat.le_of_eq HGe.out) _)
    have hst := fun (u : World) (ad : Addr) (mm : Option Nat) m => run_store Tryz.prog u ad (.map mm) m rfl
    clear r1
    go_wp2_with fail
    go_roundw
    case rel => exact ⟨k + 1, _, by omega, by go_num, HE2, HB2⟩
    case measure => simp [intOf]; omega
  · have hlt' : ¬ (k : Int) < (n : Int) := by omega
    obtain rfl : k = n := by omega
    have HEM := hid (show EdM wr w.heap.size g k M (allE ts [] 0) by
     refine ⟨?_, fun i hi => HE.out.map i hi, HE.out.low, HE.out.inj⟩
     have e : (List.range k).map (fun i => Value.map (some (M i))) = (List.range k).map (fun i => if i < k then Value.map (some (M i)) else .map none) := List.map_congr_left (fun i hi => by rw [if_pos (List.mem_range.1 hi)])
     rw [e]; exact HE.out.row)
    have HR1 := hid (HR.out.below HB.out (Nat.le_refl _))
    clear hmm HE
    go_wp2_with fail
    refine (impl_usesOf c HR1.out HL.out HK.out).mono ?_
    rintro e w2 ⟨gU, m, ks, X, rfl, hkl, hm2, hko, hU, b2⟩
    have HU := hid hU
    have HKl := hid hkl
    have HKo := hid hko
    have HB2 := hid (HB.out.trans (b2.mono HB.out.size))
    have HE2 := hid (show EdM w2 w.heap.size g k M (allE ts ks 0) from HEM.out.below b2)
    clear hU hkl hko b2 HEM
    go_wp2_with fail
    go_loopw [23] (fun s wq => ∃ i : Nat, i ≤ m ∧ s = .int .i64 i ∧ Hid (EdM wq w.heap.size g k M (allE ts ks i)) ∧ Hid (CK w2 wq) ∧ Hid (Below w.heap.size w wq)) (fun s _ => m - (intOf s).toNat)
    case atStart => exact ⟨0, Nat.zero_le _, rfl, HE2, hid (CK.refl _), HB2⟩
    case round =>
     clear HE2 HB2
     obtain ⟨i, hi, rfl, HE, HC, HB⟩ := hrel
     obtain ⟨wo, hwo⟩ : ∃ wo, wo = wr := ⟨_, rfl⟩
     subst hwo
     by_cases hlm : i < m
     · have hlm' : (i : Int) < (m : Int) := by omega
       have hi0 : (0 : Int) ≤ (i : Int) := by omega
       have hq0 : i * 2 < m * 2 := by omega
       have hq1 : i * 2 + 1 < m * 2 := by omega
       have hc0 := HC.out.cell (HU.out.cell hq0)
       have hc1 := HC.out.cell (HU.out.cell hq1)
       obtain ⟨aw, cw, hXw⟩ := HU.out.slice hq0
       obtain ⟨ar, cr, hXr⟩ := HU.out.slice hq1
       have hoW := owns_ck (HU.out.own _ hq0) HC.out
       have hoR := owns_ck (HU.out.own _ hq1) HC.out
       rw [hXw] at hc0 hoW
       rw [hXr] at hc1 hoR
       have hWlt : ∀ p ∈ useL ts ks k (i * 2), p < k := fun p hp => useL_lt hp
       have hRlt : ∀ p ∈ useL ts ks k (i * 2 + 1), p < k := fun p hp => useL_lt hp
       have hwl : (useL ts ks k (i * 2)).length ≤ 100 := Nat.le_trans (useL_len _ _ _ _) hn
       have hrl : (useL ts ks k (i * 2 + 1)).length ≤ 100 := Nat.le_trans (useL_len _ _ _ _) hn
       have HWr := hid (own_readsI hoW (nI_bd (fun p hp => by have := hWlt p hp; omega)))
       have HRr := hid (own_readsI hoR (nI_bd (fun p hp => by have := hRlt p hp; omega)))
       have HWb := hid hWlt
       have HRb := hid hRlt
       have HSu := hid (show allE ts ks (i + 1) = adK ts (useL ts ks k (i * 2)) (useL ts ks k (i * 2 + 1)) (allE ts ks i) by rw [allE_succ]; unfold stK; rw [HL.out])
       have HLe := hid (fun j => show (allE ts ks i j).length ≤ 400000000 from Nat.le_trans (allE_len ts ks (by rw [HL.out]; exact hn) i j) (by omega))
       generalize useL ts ks k (i * 2) = WL at *
       generalize useL ts ks k (i * 2 + 1) = RL at *
       obtain ⟨nw, hnw⟩ : ∃ x, WL.length = x := ⟨_, rfl⟩
       obtain ⟨nr, hnr⟩ : ∃ x, RL.length = x := ⟨_, rfl⟩
       rw [hnw] at hc0 HWr hwl
       rw [hnr] at hc1 HRr hrl
       have bA := Below.alloc1 wo (.cells #[.slice aw nw cw, .slice ar nr cr] 91)
       have HEA := hid (HE.out.below bA)
       have HCA := hid (HC.out.trans (CK.below bA))
       have HBA := hid (HB.out.trans (bA.mono HB.out.size))
       have HWA := hid (HWr.out.below bA (Nat.le_refl _))
       have HRA := hid (HRr.out.below bA (Nat.le_refl _))
       clear hXw hXr hoW hoR hWlt hRlt hnw hnr bA HE HC HB HWr HRr
       go_wp2_with fail
       clear hc0 hc1
       refine (impl_add (w0 := w) c HR.out HL.out hn HBA.out HEA.out cw cr HWA.out HRA.out HWb.out HRb.out hwl hrl 400000000 (by omega) HLe.out).mono ?_
       rintro e w5 ⟨rfl, hE5, hC5, hB5⟩
       have HE5 := hid (show EdM w5 w.heap.size g k M (allE ts ks (i + 1)) by rw [HSu.out]; exact hE5)
       have HC5 := hid (HCA.out.trans hC5)
       have HB5 := hid hB5
       clear hE5 hC5 hB5
       go_wp2_with fail
       go_roundw
       case rel => exact ⟨i + 1, by omega, by go_num, HE5, HC5, HB5⟩
       case measure => simp [intOf]; omega
     · have hlm' : ¬ (i : Int) < (m : Int) := by omega
       have HEf := hid (show EdM wo w.heap.size g k M (allE ts ks ks.length) by have := HE.out; rwa [show i = ks.length by have := HKl.out; omega] at this)
       go_wp2_with fail
       go_ret
       exact ⟨g, rfl, M, ks, HKo.out, HEf.out, HB.out⟩
end Go.Proofs.YtjcjoabblafboaaGreat
