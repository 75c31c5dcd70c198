/- The laws' toControl; FnExactControlBytes' walk, the program's contract being given. Conditions: none but what the argument's type says. -/
import Derived.Test.YtplbejipkaionaaCa17
namespace Go.Proofs.Ytplbejipkaionaa
open Go.RowKit
set_option maxRecDepth 100000

theorem size_ct : (Try.prog.info? 25).map (·.size) = some 5 := by kernel_rfl
theorem size_lct : (Try.prog.info? 31).map (·.size) = some 5 := by kernel_rfl
set_option maxHeartbeats 3200000 in
theorem toControl (sq ar ls nx pg : Int) (w : World) :
    Calls Try.prog 12 #[.agg #[.int .i64 sq, .int .i64 ar, .int .i64 ls, .int .i64 nx, .int .i64 pg]] w fun e w' => e = .returned (.agg #[.int .i64 sq, .int .i64 ar, .int .i64 ls, .int .i64 nx, .int .i64 pg]) ∧ Below w.heap.size w w' := by
  obtain ⟨z3, r1, r2, b3⟩ := three w (.cells #[.int .i64 sq, .int .i64 ar, .int .i64 ls, .int .i64 nx, .int .i64 pg] 31) (.cells #[.int .i64 0, .int .i64 0, .int .i64 0, .int .i64 0, .int .i64 0] 25) (.cells #[.int .i64 sq, .int .i64 ar, .int .i64 ls, .int .i64 nx, .int .i64 pg] 25)
  have H1 := hid r1
  have H2 := hid r2
  have HB := hid b3
  clear z3 r1 r2 b3
  go_enter Try.func12, Try.ntmps12
  go_wp2_with (first
    | (refine wpList_load_row rfl 25 (.tmp 3) rfl (w.heap.size + 1 + 1) rfl 25 _ (0, 0) _ H2.out Try.underlying25 rfl size_ct ?_)
    | (refine wpList_store_row rfl 25 (.tmp 2) (.tmp 19) rfl (w.heap.size + 1) #[.int .i64 sq, .int .i64 ar, .int .i64 ls, .int .i64 nx, .int .i64 pg] rfl rfl 25 _ H1.out ?s7 ?s8 ?s9 ?_))
  case s7 => exact size_ct
  case s8 => rfl
  case s9 => simp [Value.oneCell']
  exact bodyPost_ret (results_cell_row Try.results12 _ _ (w.heap.size + 1) 25 _ (0, 0) _ rfl (setRow_heap _ _ _ _ _ _ H1.out) Try.underlying25 rfl size_ct) rfl ⟨rfl, below_setRow HB.out (by omega) _⟩
theorem ctl_bd (sq ar ls nx pg : Int) : (ctlL sq ar ls nx pg).length ≤ 64 ∧ ∀ i, 0 ≤ (ctlL sq ar ls nx pg).getD i 0 ∧ (ctlL sq ar ls nx pg).getD i 0 ≤ 255 := by
  cases h : okC sq ar ls nx pg with
  | false => unfold ctlL; rw [h]; exact ⟨by simp, fun i => by simp⟩
  | true =>
    obtain ⟨e, hl, hb⟩ := ctl_yes h
    rw [e]
    unfold fillC
    refine ⟨by rw [List.length_append, List.length_replicate, hl]; omega, fun i => ?_⟩
    by_cases hi : i < (frameL 9 (bodyC sq ar ls nx pg)).length
    · rw [List.getD_eq_getElem?_getD, List.getElem?_append_left hi, ← List.getD_eq_getElem?_getD]; exact hb i
    · rw [List.getD_eq_getElem?_getD, List.getElem?_append_right (Nat.le_of_not_lt hi), List.getElem?_replicate]
      split <;> simp
/-- A whole row in its block. -/
structure RowC (w : World) (g : Nat) (xs : Array Value) (t : TypeId) : Prop where
  h : w.heap[g]? = some (.cells xs t)
theorem RowC.below {w w' : World} {g : Nat} {xs : Array Value} {t : TypeId} (q : RowC w g xs t) {B : Nat} (hb : Below B w w') (hB : w.heap.size ≤ B) : RowC w' g xs t := ⟨(hb.block g (by have := (Array.getElem?_eq_some_iff.1 q.h).1; omega)).trans q.h⟩
theorem own_reads17 {w : World} {base n c : Nat} {a : Option Addr} {zs : List Int} (o : w.ownsRow base 5 1 (.slice a n c) n (bys zs)) (hb : ∀ i, 0 ≤ zs.getD i 0 ∧ zs.getD i 0 ≤ 255) : Reads w a n zs := by
  obtain ⟨ad, cap, e, r, _⟩ := Reads.own o hb
  cases e
  exact r
theorem Reads.low17 {w w' : World} {ad : Option Addr} {n B : Nat} {zs : List Int} (h : Reads w ad n zs) (hl : ∀ a, ad = some a → 0 < n → a.block < B) (b : Below B w w') : Reads w' ad n zs := by
  refine ⟨h.len, ?_, h.bd⟩
  rcases h.cells with h0 | ⟨bb, off, rfl, hc⟩
  · exact .inl h0
  · by_cases hn : n = 0
    · exact .inl hn
    · exact .inr ⟨bb, off, rfl, fun i hi => (b.cell (p := ⟨bb, off + i, none⟩) (show bb < B from hl ⟨bb, off, none⟩ rfl (by omega))).trans (hc i hi)⟩
set_option maxHeartbeats 6400000 in
theorem exactControlBytes (hI : ∀ (sq ar ls nx pg : Int) (w : World), (-9223372036854775808 ≤ sq ∧ sq ≤ 9223372036854775807) → (-9223372036854775808 ≤ ar ∧ ar ≤ 9223372036854775807) → (-9223372036854775808 ≤ ls ∧ ls ≤ 9223372036854775807) → (-9223372036854775808 ≤ nx ∧ nx ≤ 9223372036854775807) → (-9223372036854775808 ≤ pg ∧ pg ≤ 9223372036854775807) →
      Calls Try.prog 8 #[.agg #[.int .i64 sq, .int .i64 ar, .int .i64 ls, .int .i64 nx, .int .i64 pg]] w fun e w' => ∃ v, e = .returned v ∧ w'.ownsRow w.heap.size 5 1 v (ctlL sq ar ls nx pg).length (bys (ctlL sq ar ls nx pg)) ∧ Below w.heap.size w w')
    (sq ar ls nx pg : Int) (w : World) (b0 : -9223372036854775808 ≤ sq ∧ sq ≤ 9223372036854775807) (b1 : -9223372036854775808 ≤ ar ∧ ar ≤ 9223372036854775807) (b2 : -9223372036854775808 ≤ ls ∧ ls ≤ 9223372036854775807) (b3 : -9223372036854775808 ≤ nx ∧ nx ≤ 9223372036854775807) (b4 : -9223372036854775808 ≤ pg ∧ pg ≤ 9223372036854775807) :
    Calls Try.prog 4 #[.agg #[.int .i64 sq, .int .i64 ar, .int .i64 ls, .int .i64 nx, .int .i64 pg]] w fun e w' => e = .returned (.bool true) ∧ Below w.heap.size w w' := by
  have HB := hid (Below.alloc1 w (.cells #[.int .i64 sq, .int .i64 ar, .int .i64 ls, .int .i64 nx, .int .i64 pg] 31))
  have HA := hid (RowC.mk (heap_alloc_new w (.cells #[.int .i64 sq, .int .i64 ar, .int .i64 ls, .int .i64 nx, .int .i64 pg] 31)))
  have FI := hid (fun W => hI sq ar ls nx pg W b0 b1 b2 b3 b4)
  have HEl := hid (ctl_bd sq ar ls nx pg).1
  have HBd := hid (ctl_bd sq ar ls nx pg).2
  obtain ⟨E, hE⟩ : ∃ E, ctlL sq ar ls nx pg = E := ⟨_, rfl⟩
  have FS := hid (fun W => spec_ControlBytes sq ar ls nx pg W)
  rw [hE] at FI FS HEl HBd
  obtain ⟨z, hz⟩ : ∃ z, E.length = z := ⟨_, rfl⟩
  rw [hz] at FI FS HEl
  have hzz : z ≤ 64 := HEl.out
  clear hE hz b0 b1 b2 b3 b4 hI HEl
  go_enter Try.func4, Try.ntmps4
  go_wp2_with (refine wpList_load_row rfl 31 (.tmp 1) rfl w.heap.size rfl 31 _ (0, 0) _ HA.out.h Try.underlying31 rfl size_lct ?_)
  refine (toControl sq ar ls nx pg _).mono ?_
  rintro e w1 ⟨rfl, b⟩
  replace HA := hid (HA.out.below b (Nat.le_refl _))
  replace HB := hid (HB.out.trans (b.mono HB.out.size))
  clear b
  go_wp2_with fail
  refine (FS.out _).mono ?_
  rintro e w2 ⟨v, rfl, o, b⟩
  replace HA := hid (HA.out.below b (Nat.le_refl _))
  replace HB := hid (HB.out.trans (b.mono HB.out.size))
  clear b
  obtain ⟨gS, cS, rfl, r, -⟩ := Reads.own o HBd.out
  have S := hid r
  clear o r
  go_wp2_with (refine wpList_load_row rfl 31 (.tmp 1) rfl w.heap.size rfl 31 _ (0, 0) _ HA.out.h Try.underlying31 rfl size_lct ?_)
  refine (toControl sq ar ls nx pg _).mono ?_
  rintro e w3 ⟨rfl, b⟩
  replace HA := hid (HA.out.below b (Nat.le_refl _))
  replace S := hid (S.out.below b (Nat.le_refl _))
  replace HB := hid (HB.out.trans (b.mono HB.out.size))
  clear b
  go_wp2_with fail
  refine (FI.out _).mono ?_
  rintro e w4 ⟨v, rfl, o, b⟩
  have S3 := hid (show ∀ a, gS = some a → 0 < z → a.block < w3.heap.size from fun a ea hz0 => by
    rcases S.out.cells with h0 | ⟨bb, of, e2, hc⟩
    · omega
    · rw [ea] at e2; cases e2; exact World.block_lt_of_cell? w3 _ (hc 0 hz0))
  have HA3 := hid (Array.getElem?_eq_some_iff.1 HA.out.h).1
  have HZ := hid (show w3.heap.size ≤ w4.heap.size from b.size)
  have HLo := hid HB.out.size
  replace HA := hid (HA.out.below b (Nat.le_refl _))
  replace S := hid (S.out.below b (Nat.le_refl _))
  replace HB := hid (HB.out.trans (b.mono HB.out.size))
  clear b
  obtain ⟨gI, cI, rfl, -, -⟩ := Reads.own o HBd.out
  have I := hid o
  clear o
  have HSl := hid S.out
  clear HSl
  go_wp2_with fail
  refine (eqByteS_any cI cS (own_reads17 I.out HBd.out) S.out (by omega)).mono ?_
  rintro e w5 ⟨rfl, st⟩
  have b := st.below w4.heap.size
  have HZ5 := hid (show w4.heap.size ≤ w5.heap.size from b.size)
  clear st
  replace HA := hid (HA.out.below b (Nat.le_refl _))
  replace S := hid (S.out.below b (Nat.le_refl _))
  replace I := hid (owns_below b (Nat.le_refl _) I.out)
  replace HB := hid (HB.out.trans (b.mono HB.out.size))
  clear b
  go_wp2_with fail
  refine (markByteS_any 1 (by omega) (by omega) (by omega) I.out).mono ?_
  rintro e w6 ⟨rfl, o, hg⟩
  have b : Below w3.heap.size w5 w6 := Below.grown (Below.refl w3.heap.size w5) hg (Nat.le_trans HZ.out HZ5.out) (fun r e => (I.out.lt r e).1)
  replace HA := hid (RowC.mk ((b.block w.heap.size HA3.out).trans HA.out.h))
  replace S := hid (S.out.low17 S3.out b)
  replace HB := hid (HB.out.trans (b.mono HLo.out))
  replace I := hid o
  clear b o hg
  obtain ⟨K2, hK2⟩ : ∃ K2 : Int, (1 : Int) + ((z : Nat) : Int) = K2 := ⟨_, rfl⟩
  have HK2 := hid hK2
  rw [hK2]
  have hK20 : ¬ K2 < 0 := by omega
  have hKK : (K2 != K2) = false := by simp
  clear hK2
  go_wp2_with fail
  refine (heldByteS_any cI 1 (own_reads17 I.out (fun i => marks_bd 1 z i)) (by omega) (by omega) (by omega)).mono ?_
  rintro e w7 ⟨rfl, rfl⟩
  rw [HK2.out]
  go_wp2_with (refine wpList_load_row rfl 31 (.tmp 1) rfl w.heap.size rfl 31 _ (0, 0) _ HA.out.h Try.underlying31 rfl size_lct ?_)
  refine (toControl sq ar ls nx pg _).mono ?_
  rintro e w8 ⟨rfl, b⟩
  replace HA := hid (HA.out.below b (Nat.le_refl _))
  replace S := hid (S.out.below b (Nat.le_refl _))
  replace I := hid (owns_below b (Nat.le_refl _) I.out)
  replace HB := hid (HB.out.trans (b.mono HB.out.size))
  clear b
  go_wp2_with fail
  refine (FI.out _).mono ?_
  rintro e w9 ⟨v, rfl, o, b⟩
  replace HA := hid (HA.out.below b (Nat.le_refl _))
  replace S := hid (S.out.below b (Nat.le_refl _))
  replace I := hid (owns_below b (Nat.le_refl _) I.out)
  replace HB := hid (HB.out.trans (b.mono HB.out.size))
  clear b
  obtain ⟨gJ, cJ, rfl, rJ, -⟩ := Reads.own o HBd.out
  have J := hid rJ
  clear o rJ
  go_wp2_with fail
  refine (eqByteS_any cJ cS J.out S.out (by omega)).mono ?_
  rintro e w10 ⟨rfl, st⟩
  have b := st.below w9.heap.size
  clear st J
  replace HA := hid (HA.out.below b (Nat.le_refl _))
  replace S := hid (S.out.below b (Nat.le_refl _))
  replace I := hid (owns_below b (Nat.le_refl _) I.out)
  replace HB := hid (HB.out.trans (b.mono HB.out.size))
  clear b
  go_wp2_with fail
  refine (heldByteS_any cI 1 (own_reads17 I.out (fun i => marks_bd 1 z i)) (by omega) (by omega) (by omega)).mono ?_
  rintro e w11 ⟨rfl, rfl⟩
  rw [HK2.out]
  clear I S HA
  go_wp2_with fail
  go_ret
  exact ⟨rfl, HB.out⟩
end Go.Proofs.Ytplbejipkaionaa
