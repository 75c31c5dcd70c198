/- The contracts of the program's viewOf, sees, Sees, Visible: who ran is kept in a map. Conditions: lists of at most 2^47 numbers. -/
import Derived.Test.YtemhmlikfiknlaaXb9
import Derived.Maps.OwnSet
namespace Go.Proofs.Ytemhmlikfiknlaa
open Go.RowKit Go.Maps
set_option maxRecDepth 100000

theorem law3 : Keyed Try.prog 3 := int_keyed Try.underlying3
theorem zeroU (w : World) : (zeroValue 69).run Try.prog w = .ok (.agg #[]) w := by kernel_rfl
theorem run_makeHint (n : Nat) (w : World) : (Instr.makeMap 60 (some (.int .i64 n))).run Try.prog w = .ok (.map (some w.heap.size)) (w.alloc (.map #[] 0)) := by kernel_rfl
/-- The set of those that ran. -/
def ranS (R : List Int) : DataW Unit := setOf (.agg []) (R.map (Lit.int .i64))
theorem any_int9 (x : Int) : ∀ l : List Int, l.any ((fun y : Lit => y.sameKey (.int .i64 x)) ∘ Lit.int .i64) = l.contains x
  | [] => rfl
  | a :: r => by
    rw [List.any_cons, List.contains_cons, any_int9 x r]
    congr 1
    show decide (IntKind.i64 = IntKind.i64 ∧ a = x) = (x == a)
    by_cases e : a = x
    · subst e
      simp
    · have e' : ¬ x = a := fun h => e h.symm
      simp [e, e']
theorem has_ran (R : List Int) (x : Int) : Maps.has (ranS R) (.int .i64 x) = R.contains x := by
  unfold ranS
  rw [has_setOf _ _ _ (fun y hy => by obtain ⟨_, _, rfl⟩ := List.mem_map.1 hy; trivial), List.any_map]
  exact any_int9 x _
theorem ran_succ (R : List Int) (k : Nat) (hk : k < R.length) : ranS (R.take (k + 1)) = (ranS (R.take k)).put (.int .i64 (R.getD k 0)) (.agg []) := by
  unfold ranS
  rw [List.take_add_one, List.getElem?_eq_getElem hk, Option.toList_some, List.map_append, List.map_singleton, setOf_snoc]
  simp [List.getD, List.getElem?_eq_getElem hk]
theorem wf_bd {x : Int} (h : -9223372036854775808 ≤ x ∧ x ≤ 9223372036854775807) : (Lit.int .i64 x).wf = true := WalkArith.wf_i64 h

theorem Try.infoV : (Try.prog.info? 62).map (fun i => (i.zero, i.size)) = some (some (.agg #[.int .i64 0, .map none, .slice none 0 0]), 3) := by kernel_rfl
theorem sizeV : (Try.prog.info? 62).map (·.size) = some 3 := by kernel_rfl

theorem two_rows (w : World) (a b : Obj) : ((w.alloc a).alloc b).heap.size = w.heap.size + 2 ∧ ((w.alloc a).alloc b).heap[w.heap.size]? = some a ∧ ((w.alloc a).alloc b).heap[w.heap.size + 1]? = some b ∧ Below w.heap.size w ((w.alloc a).alloc b) := by
  have h1 := alloc_size w a
  have h2 := alloc_size (w.alloc a) b
  refine ⟨by omega, ?_, ?_, two w a b⟩
  · rw [alloc_old _ _ _ (by omega)]
    exact heap_alloc_new w a
  · have := heap_alloc_new (w.alloc a) b
    rwa [h1] at this
theorem owns_map_row {w : World} {b n g : Nat} {D : DataW Unit} {k : TypeId} (h : w.ownsMap Try.prog k (unitElem (H := Unit)) b n D) (hne : b ≠ g) (cs : Array Value) : (w.setRow g cs).ownsMap Try.prog k (unitElem (H := Unit)) b n D := by
  obtain ⟨es, clock, hb, r⟩ := h
  exact ⟨es, clock, by rw [setRow_other _ _ _ _ hne]; exact hb, r⟩

set_option maxHeartbeats 1600000 in
theorem impl_viewOf_yes (S : Int) {ad : Option Addr} {n : Nat} (cap : Nat) {R : List Int} {w : World} (h : ReadsI w ad n R) (hn : n ≤ 2097152) (al : Option Addr) (nl cl : Nat) (hok : snapOk S R = true) :
    Calls Try.prog 39 #[.agg #[.int .i64 S, .slice ad n cap], .slice al nl cl] w fun e w' => ∃ b, e = .returned (.agg #[.int .i64 S, .map (some b), .slice al nl cl]) ∧ w'.ownsMap Try.prog 3 (unitElem (H := Unit)) b n (ranS R) ∧ Below w.heap.size w w' := by
  have hl := h.len
  have hmm := run_makeHint
  have HO := hid hok
  clear hok
  obtain ⟨z, R1, R2, bW⟩ := two_rows w (.cells #[.int .i64 S, .slice ad n cap] 32) (.cells #[.int .i64 0, .map none, .slice none 0 0] 62)
  have HR := hid (h.below bW (Nat.le_refl _))
  have HB := hid bW
  have ZW := hid z
  have Q1 := hid R1
  have Q2 := hid R2
  clear z R1 R2 bW h
  go_enter Try.func39, Try.ntmps39
  go_wp2_with fail
  refine (impl_SnapOk S cap HR.out (by omega)).mono ?_
  rintro e W ⟨rfl, b⟩
  have hz := ZW.out
  have hzW := b.size
  have R1 : W.heap[w.heap.size]? = _ := (b.block _ (by omega)).trans Q1.out
  have R2 : W.heap[w.heap.size + 1]? = _ := (b.block _ (by omega)).trans Q2.out
  have HZ := hid (show w.heap.size + 2 ≤ W.heap.size by omega)
  replace HR := hid (HR.out.below b (Nat.le_refl _))
  replace HB := hid (HB.out.trans (b.mono HB.out.size))
  have hc0 : W.cell? ⟨w.heap.size, 0, none⟩ = some (.int .i64 S) := by rw [cell_of_row _ _ _ _ _ _ R1]; rfl
  have hc1 : W.cell? ⟨w.heap.size, 1, none⟩ = some (.slice ad n cap) := by rw [cell_of_row _ _ _ _ _ _ R1]; rfl
  have RW := hid R2
  rw [HO.out]
  clear b R1 R2 Q1 Q2 ZW hz hzW
  have hd1 : (W.alloc (.map #[] 0)).cell? ⟨w.heap.size, 1, none⟩ = some (.slice ad n cap) := (Below.cell (p := ⟨w.heap.size, 1, none⟩) (Below.alloc1 W _) (by have := HZ.out; exact (by omega : w.heap.size < W.heap.size))).trans hc1
  go_wp2_with fail
  clear hmm
  go_loopw [7, 19] (fun _ i wr => ∃ k : Nat, k ≤ n ∧ i = .int .i64 k ∧ Hid (wr.ownsMap Try.prog 3 (unitElem (H := Unit)) W.heap.size k (ranS (R.take k))) ∧ Hid (Below W.heap.size W wr)) (fun _ i _ => n - (intOf i).toNat)
  case atStart => exact ⟨0, Nat.zero_le _, rfl, hid (World.ownsMap_made _ _ _ _), hid (Below.alloc1 W _)⟩
  case round =>
    obtain ⟨k, hk, rfl, HM, HN⟩ := hrel
    clear hd1
    by_cases hlt : k < n
    · have hlt' : (k : Int) < (n : Int) := by omega
      have HS := hid (ran_succ R k (by omega))
      obtain ⟨b, off, rfl, hc⟩ := (HR.out.below HN.out (Nat.le_refl _)).at hlt
      have hkey : keyOf Try.prog 3 (.int .i64 (R.getD k 0)) = some (.int .i64 (R.getD k 0)) := keyOf_int_mk Try.underlying3 (wf_bd (HR.out.bd k))
      generalize R.getD k 0 = x at *
      clear hc0 hc1
      go_wp2_with (at_mapUpdate; refine wpList_mapUpdate_own _ rfl _ _ _ 60 rfl 3 69 law3 Try.underlying60 (unitElem (H := Unit)) W.heap.size k _ rfl HM.out (by unfold maxLen; omega) _ _ _ rfl rfl hkey _ [] unitElem_mk ?_; intro w1 hown1 hgrow1)
      have M1 := hid (show w1.ownsMap Try.prog 3 (unitElem (H := Unit)) W.heap.size (k + 1) (ranS (R.take (k + 1))) from HS.out ▸ hown1)
      have N1 := hid (HN.out.grown hgrow1 HN.out.size (fun j hj => by cases hj; exact Nat.le_refl _))
      clear hown1 hgrow1
      go_roundw
      case rel => exact ⟨k + 1, by omega, by go_num, M1, N1⟩
      case measure => simp [intOf]; omega
    · have hlt' : ¬ (k : Int) < (n : Int) := by omega
      have hkn : k = n := by omega
      subst hkn
      have hz2 := HZ.out
      have e0 := (HN.out.cell (p := ⟨w.heap.size, 0, none⟩) (by exact (by omega : w.heap.size < W.heap.size))).trans hc0
      have T2 := hid ((HN.out.block (w.heap.size + 1) (by omega)).trans RW.out)
      clear hc0 hc1 hz2
      go_wp2_with (refine wpList_store_row rfl 62 (.tmp 4) (.tmp 31) rfl (w.heap.size + 1) #[.int .i64 S, .map (some W.heap.size), .slice al nl cl] rfl rfl 62 _ T2.out ?s1 ?s2 ?s3 ?_)
      case s1 => simpa using sizeV
      case s3 => simp [Value.oneCell']
      have hz2 := HZ.out
      refine bodyPost_ret (results_cell_row Try.results39 _ _ (w.heap.size + 1) 62 #[.int .i64 S, .map (some W.heap.size), .slice al nl cl] (0, 0) _ rfl (setRow_heap _ _ _ _ _ _ T2.out) Try.underlying62 rfl sizeV) rfl ⟨W.heap.size, rfl, ?_, below_setRow (HB.out.trans (HN.out.mono HB.out.size)) (by omega) _⟩
      have := HM.out
      rw [List.take_of_length_le (by omega)] at this
      exact owns_map_row this (by omega) _

set_option maxHeartbeats 1600000 in
theorem impl_viewOf_no (S : Int) {ad : Option Addr} {n : Nat} (cap : Nat) {R : List Int} {w : World} (h : ReadsI w ad n R) (hn : n ≤ 2097152) (al : Option Addr) (nl cl : Nat) (hok : snapOk S R = false) :
    Calls Try.prog 39 #[.agg #[.int .i64 S, .slice ad n cap], .slice al nl cl] w fun e w' => e = .returned (.agg #[.int .i64 0, .map none, .slice none 0 0]) ∧ Below w.heap.size w w' := by
  have HO := hid hok
  clear hok
  obtain ⟨z, R1, R2, bW⟩ := two_rows w (.cells #[.int .i64 S, .slice ad n cap] 32) (.cells #[.int .i64 0, .map none, .slice none 0 0] 62)
  have HR := hid (h.below bW (Nat.le_refl _))
  have HB := hid bW
  have ZW := hid z
  have Q2 := hid R2
  clear z R1 R2 bW h
  go_enter Try.func39, Try.ntmps39
  go_wp2_with fail
  refine (impl_SnapOk S cap HR.out (by omega)).mono ?_
  rintro e W ⟨rfl, b⟩
  have hz := ZW.out
  have R2 : W.heap[w.heap.size + 1]? = _ := (b.block _ (by omega)).trans Q2.out
  have RW := hid R2
  replace HB := hid (HB.out.trans (b.mono HB.out.size))
  rw [HO.out]
  clear b R2 Q2 ZW hz HR
  go_wp2_with (refine wpList_store_row rfl 62 (.tmp 4) (.tmp 11) rfl (w.heap.size + 1) #[.int .i64 0, .map none, .slice none 0 0] rfl rfl 62 _ RW.out ?s1 ?s2 ?s3 ?_)
  case s1 => exact sizeV
  case s2 => rfl
  case s3 => simp [Value.oneCell']
  refine bodyPost_ret (results_cell_row Try.results39 _ _ (w.heap.size + 1) 62 #[.int .i64 0, .map none, .slice none 0 0] (0, 0) _ rfl (setRow_heap _ _ _ _ _ _ RW.out) Try.underlying62 rfl sizeV) rfl ⟨rfl, below_setRow HB.out (by omega) _⟩

theorem impl_sees_no (x : Int) (w : World) : Calls Try.prog 40 #[.agg #[.int .i64 0, .map none, .slice none 0 0], .int .i64 x] w fun e w' => e = .returned (.bool false) ∧ Below w.heap.size w w' := by
  have HB := hid (Below.alloc1 w (.cells #[.int .i64 0, .map none, .slice none 0 0] 62))
  go_enter Try.func40, Try.ntmps40
  go_wp2_with fail
  refine (impl_in8 _ _ _ _).mono ?_
  rintro e w1 ⟨rfl, e1⟩
  subst w1
  rw [decide_eq_false (by omega)]
  go_wp2_with fail
  go_ret
  exact ⟨rfl, HB.out⟩

set_option maxHeartbeats 1600000 in
theorem impl_sees_yes {S : Int} {R : List Int} (hok : snapOk S R = true) {b n : Nat} {w : World} (hm : w.ownsMap Try.prog 3 (unitElem (H := Unit)) b n (ranS R)) {al : Option Addr} {nl : Nat} (cl : Nat) {l : List Int} (hL : ReadsI w al nl l) (hn : nl ≤ 4611686018427387904) (x : Int) (hx : -9223372036854775808 ≤ x ∧ x ≤ 9223372036854775807) :
    Calls Try.prog 40 #[.agg #[.int .i64 S, .map (some b), .slice al nl cl], .int .i64 x] w fun e w' => e = .returned (.bool (seesB S R l x)) ∧ Below w.heap.size w w' := by
  have hkey : keyOf Try.prog 3 (.int .i64 x) = some (.int .i64 x) := keyOf_int_mk Try.underlying3 (wf_bd hx)
  have HO := hid hok
  obtain ⟨hS1, hS2⟩ := (snapOk_of hok).1
  have hB := Below.alloc1 w (.cells #[.int .i64 S, .map (some b), .slice al nl cl] 62)
  have HM := hid (hm.alloc (.cells #[.int .i64 S, .map (some b), .slice al nl cl] 62))
  have HL := hid (hL.below hB (Nat.le_refl _))
  have HB := hid hB
  clear hok hm hL hB
  go_enter Try.func40, Try.ntmps40
  go_wp2_with fail
  refine (impl_in8 _ _ _ _).mono ?_
  rintro e w1 ⟨rfl, e1⟩
  subst w1
  have HB2 := hid (HB.out.trans ((Below.alloc1 (w.alloc (.cells #[.int .i64 S, .map (some b), .slice al nl cl] 62)) (.cells #[] 69)).mono HB.out.size))
  have HL2 := hid (HL.out.below (Below.alloc1 (w.alloc (.cells #[.int .i64 S, .map (some b), .slice al nl cl] 62)) (.cells #[] 69)) (Nat.le_refl _))
  by_cases hb : 1 ≤ x ∧ x ≤ S
  · rw [decide_eq_true hb]
    have hh := has_ran R x
    by_cases hxs : x = S
    · subst hxs
      go_wp2_with (at_lookup; refine wpList_lookup_own_unit _ rfl _ _ 60 rfl 3 69 law3 Try.underlying60 (zeroU _) b n _ rfl HM.out _ _ rfl hkey ?_)
      go_ret
      exact ⟨by rw [sees_self HO.out]; rfl, HB2.out⟩
    · have g1 : (x == S) = false := by simpa using hxs
      cases hcon : R.contains x with
      | true =>
        rw [hcon] at hh
        have HX := hid (sees_in (S := S) (l := l) hxs hcon)
        clear hxs hcon
        go_wp2_with (at_lookup; refine wpList_lookup_own_unit _ rfl _ _ 60 rfl 3 69 law3 Try.underlying60 (zeroU _) b n _ rfl HM.out _ _ rfl hkey ?_)
        go_ret
        exact ⟨by rw [HX.out]; simp, HB2.out⟩
      | false =>
        rw [hcon] at hh
        have HX := hid (sees_at (l := l) HO.out hxs hcon)
        rw [decide_eq_true (show 1 ≤ x ∧ x < S by omega), Bool.true_and] at HX
        have HT := hid (impl_StatusOf cl HL2.out hn x)
        clear hxs hcon
        generalize stOf l x = t at *
        go_wp2_with (at_lookup; refine wpList_lookup_own_unit _ rfl _ _ 60 rfl 3 69 law3 Try.underlying60 (zeroU _) b n _ rfl HM.out _ _ rfl hkey ?_)
        refine (HT.out).mono ?_
        rintro e w1 ⟨rfl, e1⟩
        subst w1
        go_wp2_with fail
        go_ret
        by_cases h3 : t = 1
        · subst h3
          exact ⟨by rw [HX.out]; simp, HB2.out⟩
        · exact ⟨by rw [HX.out, decide_eq_false h3]; simp [h3], HB2.out⟩
  · rw [decide_eq_false hb]
    go_wp2_with fail
    go_ret
    refine ⟨?_, HB.out⟩
    have : seesB S R l x = false := by
      unfold seesB
      rw [decide_eq_false (show ¬ x = S by omega), decide_eq_false (show ¬ (1 ≤ x ∧ x < S) by omega)]; simp
    rw [this]; rfl
end Go.Proofs.Ytemhmlikfiknlaa
