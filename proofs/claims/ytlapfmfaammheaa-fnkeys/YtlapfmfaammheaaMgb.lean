/- Texts of this proof in one: Id D3k Sum Val Drn D3v Ar Rdi Rk D3a. -/
import Derived.Test.YtlapfmfaammheaaMga
import Derived.Laws.BitsAllLaws
import Derived.Deep.RegionHeld3
import Derived.Deep.AppendLies
import Derived.Laws.OwnMore
/- The contract of the specification's ItemClean. Conditions: texts of at most 2^21 bytes. -/

namespace Go.Proofs.Ytlapfmfaammheaa
open Go.RowKit

def cleanF (f : Nat) : Nat := if f = 9223372036854775808 then 0 else f
/-- What ItemClean answers. -/
def cleanV (K N : Int) (f n : Nat) (v : Value) : Value := if okI K N f n = true then .agg #[.int .i64 K, .int .i64 N, .float .f64 (cleanF f), v] else .agg #[.int .i64 0, .int .i64 0, .float .f64 0, .slice none 0 0]

set_option maxRecDepth 100000 in
set_option maxHeartbeats 3200000 in
theorem spec_ItemClean_no (K N : Int) (f : Nat) (ad : Option Addr) (n cap : Nat) (hf : f < 18446744073709551616) (hn : n ≤ 2097152) (hok : okI K N f n = false) (w : World) :
    Calls Try.prog 10 #[.agg #[.int .i64 K, .int .i64 N, .float .f64 f, .slice ad n cap]] w fun e w' => e = .returned (.agg #[.int .i64 0, .int .i64 0, .float .f64 0, .slice none 0 0]) ∧ Below w.heap.size w w' := by
  have hI := spec_ItemOk K N f ad n cap hf hn
  rw [hok] at hI
  have hB := two w (.cells #[.int .i64 K, .int .i64 N, .float .f64 f, .slice ad n cap] 26) (.cells #[.int .i64 0, .int .i64 0, .float .f64 0, .slice none 0 0] 26)
  have z1 := alloc_size w (.cells #[.int .i64 K, .int .i64 N, .float .f64 f, .slice ad n cap] 26)
  have z2 := alloc_size (w.alloc (.cells #[.int .i64 K, .int .i64 N, .float .f64 f, .slice ad n cap] 26)) (.cells #[.int .i64 0, .int .i64 0, .float .f64 0, .slice none 0 0] 26)
  have R1 := heap_alloc_new (w.alloc (.cells #[.int .i64 K, .int .i64 N, .float .f64 f, .slice ad n cap] 26)) (.cells #[.int .i64 0, .int .i64 0, .float .f64 0, .slice none 0 0] 26)
  rw [z1] at z2 R1
  have H1 := hid R1
  have HZ := hid z2
  have HB := hid hB
  clear R1 z2 z1 hB
  go_enter Try.func10, Try.ntmps10
  go_wp2_with fail
  refine (hI _).mono ?_
  rintro e w1 ⟨rfl, b1⟩
  have hz := HZ.out
  have S1 := (b1.block (w.heap.size + 1) (by omega)).trans H1.out
  have B1 := HB.out.trans (b1.mono HB.out.size)
  have T1 := hid S1
  clear S1 b1 hz HZ HB H1
  go_wp2_with (first
    | (refine wpList_store_row rfl 26 (.tmp 2) (.tmp 7) rfl (w.heap.size + 1) #[.int .i64 0, .int .i64 0, .float .f64 0, .slice none 0 0] rfl rfl 26 _ T1.out ?s1 ?s2 ?s3 ?_))
  case s1 => exact size26
  case s2 => rfl
  case s3 => simp [Value.oneCell']
  exact bodyPost_ret (results_cell_row Try.results10 _ _ (w.heap.size + 1) 26 _ (0, 0) _ rfl (setRow_heap _ _ _ _ _ _ T1.out) Try.underlying26 rfl size26) rfl ⟨rfl, below_setRow B1 (by omega) _⟩

set_option maxRecDepth 100000 in
set_option maxHeartbeats 3200000 in
theorem spec_ItemClean_yes (K N : Int) (f : Nat) {ad : Option Addr} {n : Nat} (cap : Nat) (hnil : ad = none → cap = 0) {zs : List Int} {w : World} (h : Reads w ad n zs) (hf : f < 18446744073709551616) (hn : n ≤ 2097152) (hok : okI K N f n = true) :
    Calls Try.prog 10 #[.agg #[.int .i64 K, .int .i64 N, .float .f64 f, .slice ad n cap]] w fun e w' => ∃ v, e = .returned (.agg #[.int .i64 K, .int .i64 N, .float .f64 (cleanF f), v]) ∧ w'.ownsRow w.heap.size 5 1 v n (bys zs) ∧ Below w.heap.size w w' := by
  have hI := spec_ItemOk K N f ad n cap hf hn
  rw [hok] at hI
  have hbd := h.bd
  have hst := fun w a m => run_store Try.prog w a (.float .f64 f) m rfl
  have hst0 := fun w a m => run_store Try.prog w a (.float .f64 0) m rfl
  have hB := two w (.cells #[.int .i64 K, .int .i64 N, .float .f64 f, .slice ad n cap] 26) (.cells #[.int .i64 0, .int .i64 0, .float .f64 0, .slice none 0 0] 26)
  have z1 := alloc_size w (.cells #[.int .i64 K, .int .i64 N, .float .f64 f, .slice ad n cap] 26)
  have z2 := alloc_size (w.alloc (.cells #[.int .i64 K, .int .i64 N, .float .f64 f, .slice ad n cap] 26)) (.cells #[.int .i64 0, .int .i64 0, .float .f64 0, .slice none 0 0] 26)
  have R1 := heap_alloc_new (w.alloc (.cells #[.int .i64 K, .int .i64 N, .float .f64 f, .slice ad n cap] 26)) (.cells #[.int .i64 0, .int .i64 0, .float .f64 0, .slice none 0 0] 26)
  have X0 := (Box.new w K N f ad n cap 26).below ((Below.refl (w.heap.size + 1) _).alloc (by omega) (.cells #[.int .i64 0, .int .i64 0, .float .f64 0, .slice none 0 0] 26)) (by omega)
  rw [z1] at z2 R1
  have h0 := h.below hB (Nat.le_refl _)
  have H1 := hid R1
  have HZ := hid z2
  have HB := hid hB
  have HX := hid X0
  have HR := hid h0
  clear R1 z2 z1 hB X0 h0 h
  go_enter Try.func10, Try.ntmps10
  go_wp2_with fail
  refine (hI _).mono ?_
  rintro e w1 ⟨rfl, b1⟩
  have hz := HZ.out
  have S1 := hid ((b1.block (w.heap.size + 1) (by omega)).trans H1.out)
  have B1 := hid (HB.out.trans (b1.mono HB.out.size))
  have X1 := hid (HX.out.below b1 (by omega))
  have r1 := hid (HR.out.below b1 (Nat.le_refl _))
  have Z1 := hid (show w.heap.size + 1 < w1.heap.size by have := b1.size; omega)
  clear b1 hz HZ HB H1 HX HR
  obtain ⟨c0, c1, c2, c3⟩ := X1.out
  go_wp2_with fail
  clear c0 c1 c2 c3
  refine (spec_l3copy K N f cap hnil r1.out hn).mono ?_
  rintro e w2 ⟨v, rfl, o2, b2⟩
  have hz := Z1.out
  obtain ⟨ad2, cap2, rfl, r2, d2⟩ := Reads.own o2 hbd
  have S2 := hid ((b2.block (w.heap.size + 1) (by omega)).trans S1.out)
  have B2 := hid (B1.out.trans (b2.mono B1.out.size))
  have X2 := hid (X1.out.below b2 (by omega))
  have Z2 := hid (show w.heap.size + 1 < w2.heap.size by have := b2.size; omega)
  have O2 := hid o2
  clear b2 hz S1 B1 X1 r1 o2 d2 r2
  obtain ⟨c0, c1, c2, c3⟩ := X2.out
  by_cases hz : f = 0 ∨ f = 9223372036854775808
  · have hc := hid (show cleanF f = 0 by rw [cleanF]; split <;> omega)
    have o : FloatKind.f64.format.order f 0 = some .eq := by rcases hz with rfl | rfl <;> decide
    have zz := Z2.out
    have T1 := hid ((alloc_old w2 (.cells #[.int .i64 K, .int .i64 N, .float .f64 0, .slice ad2 n cap2] 26) (w.heap.size + 1) (by omega)).trans S2.out)
    have BA := hid (B2.out.alloc (show w.heap.size ≤ w2.heap.size by omega) (.cells #[.int .i64 K, .int .i64 N, .float .f64 0, .slice ad2 n cap2] 26))
    have OA := hid (O2.out.alloc (.cells #[.int .i64 K, .int .i64 N, .float .f64 0, .slice ad2 n cap2] 26))
    have zz0 : w.heap.size < w2.heap.size := by omega
    have ne0 : ¬ w.heap.size = w2.heap.size := by omega
    clear S2 B2 O2 hz X2
    go_wp2_with (first
      | (refine wpList_store_row rfl 26 (.tmp 2) (.tmp 14) rfl (w.heap.size + 1) #[.int .i64 K, .int .i64 N, .float .f64 0, .slice ad2 n cap2] rfl rfl 26 _ T1.out ?s1 ?s2 ?s3 ?_))
    case s1 => exact size26
    case s2 => rfl
    case s3 => simp [Value.oneCell']
    refine bodyPost_ret (results_cell_row Try.results10 _ _ (w.heap.size + 1) 26 _ (0, 0) _ rfl (setRow_heap _ _ _ _ _ _ T1.out) Try.underlying26 rfl size26) rfl ⟨.slice ad2 n cap2, by rw [hc.out], owns_base (owns_at OA.out fun k hk => ?_) (by have := Z1.out; omega), below_setRow BA.out (by omega) _⟩
    exact setRow_other _ _ _ _ (by have := Z1.out; omega)
  · have hc := hid (show cleanF f = f by rw [cleanF, if_neg (by omega)])
    have o : FloatKind.f64.format.order f 0 = some .lt ∨ FloatKind.f64.format.order f 0 = some .gt ∨ FloatKind.f64.format.order f 0 = none := by
      by_cases hN : isN f = true
      · exact .inr (.inr (order_l f 0 hf hN))
      · have hN' : isN f = false := by simpa using hN
        have hm := (isN_not f).1 hN'
        by_cases hp : f < 9223372036854775808
        · exact .inr (.inl (order_gt f 0 hf (by omega) hN' isN_zero (by rw [kx_zero, kx, if_pos hp]; omega)))
        · exact .inl (order_lt f 0 hf (by omega) hN' isN_zero (by rw [kx_zero, kx, if_neg hp]; omega))
    rcases o with o | o | o
    all_goals
      have zz := Z2.out
      have T1 := hid ((alloc_old w2 (.cells #[.int .i64 K, .int .i64 N, .float .f64 f, .slice ad2 n cap2] 26) (w.heap.size + 1) (by omega)).trans S2.out)
      have BA := hid (B2.out.alloc (show w.heap.size ≤ w2.heap.size by omega) (.cells #[.int .i64 K, .int .i64 N, .float .f64 f, .slice ad2 n cap2] 26))
      have OA := hid (O2.out.alloc (.cells #[.int .i64 K, .int .i64 N, .float .f64 f, .slice ad2 n cap2] 26))
      have zz0 : w.heap.size < w2.heap.size := by omega
      have ne0 : ¬ w.heap.size = w2.heap.size := by omega
      clear S2 B2 O2 hz X2
      go_wp2_with (first
        | (refine wpList_store_row rfl 26 (.tmp 2) (.tmp 14) rfl (w.heap.size + 1) #[.int .i64 K, .int .i64 N, .float .f64 f, .slice ad2 n cap2] rfl rfl 26 _ T1.out ?s1 ?s2 ?s3 ?_))
      case s1 => exact size26
      case s2 => rfl
      case s3 => simp [Value.oneCell']
      refine bodyPost_ret (results_cell_row Try.results10 _ _ (w.heap.size + 1) 26 _ (0, 0) _ rfl (setRow_heap _ _ _ _ _ _ T1.out) Try.underlying26 rfl size26) rfl ⟨.slice ad2 n cap2, by rw [hc.out], owns_base (owns_at OA.out fun k hk => ?_) (by have := Z1.out; omega), below_setRow BA.out (by omega) _⟩
      exact setRow_other _ _ _ _ (by have := Z1.out; omega)
end Go.Proofs.Ytlapfmfaammheaa
/- The contract of the draw of a key. For codes of at most 2^21 bytes. -/




namespace Go.Proofs.Ytlapfmfaammheaa
open Go.RowKit

/-- A quotient, whatever it is. -/
theorem quo_run (t : TypeId) (s x : Nat) (w : World) :
    ∃ y w', (binOp .quo t (.float .f64 s) (.float .f64 x)).run Try.prog w = .ok (.float .f64 y) w' ∧ y < 18446744073709551616 ∧ Hid (Still w w') := by
  cases hb : floatBits .quo .f64 s x with
  | none =>
    obtain ⟨n, h1, h2, h3⟩ := nan_run .quo t s x (by simp) hb w
    exact ⟨n, _, h1, h3, hid (Still.drew w)⟩
  | some r =>
    have hr : r < 18446744073709551616 := by have := floatBits_wf hb; simpa [Lit.wf] using this
    exact ⟨r, w, run_float_arith w .quo t .f64 s x r hb, hr, hid (Still.refl w)⟩
theorem cleanF_lt {f : Nat} (h : f < 18446744073709551616) : cleanF f < 18446744073709551616 := by
  unfold cleanF; split <;> omega
theorem sizeIt : (Try.prog.info? 26).map (·.size) = some 4 := by kernel_rfl

/-- What the draw of an item answers, since the world w. -/
structure AnsI (M : Nat) (w : World) (g : Nat) (ad : Option Addr) (n cap : Nat) (zs : List Int) (e : Ending) (w' : World) : Prop where
  ex : ∃ K N f v D, e = .returned (.agg #[.int .i64 K, .int .i64 N, .float .f64 f, v]) ∧ w'.ownsRow w.heap.size 5 1 v D.length (bys D) ∧ (∀ i, 0 ≤ D.getD i 0 ∧ D.getD i 0 ≤ 255) ∧ D.length ≤ M ∧ (-9223372036854775808 ≤ N ∧ N ≤ 9223372036854775807) ∧ f < 18446744073709551616 ∧ Cur w' g ad n cap zs ∧ w.grownBy w' (some g)
theorem finI {M : Nat} {w U wr : World} {g q0 : Nat} {ad : Option Addr} {n cap : Nat} {zs : List Int} {K N : Int} {f : Nat} {v : Value} {D : List Int} {zc : Array Value} (G0 : w.grownBy U none) (hq : w.heap.size = q0) (hz : U.heap.size = q0 + 1) (T0 : U.heap[q0]? = some (.cells zc 26)) (hgl : g < q0)
    (gr : U.grownBy wr (some g)) (cr : Cur wr g ad n cap zs) (o : wr.ownsRow U.heap.size 5 1 v D.length (bys D)) (hb : ∀ i, 0 ≤ D.getD i 0 ∧ D.getD i 0 ≤ 255) (hM : D.length ≤ M) (hN : -9223372036854775808 ≤ N ∧ N ≤ 9223372036854775807) (hf : f < 18446744073709551616) :
    wr.heap[q0]? = some (.cells zc 26) ∧ AnsI M w g ad n cap zs (.returned (.agg #[.int .i64 K, .int .i64 N, .float .f64 f, v])) (wr.setRow q0 #[.int .i64 K, .int .i64 N, .float .f64 f, v]) := by
  have T1 : wr.heap[q0]? = some (.cells zc 26) := (gr.block q0 (by omega) (by simp; omega)).trans T0
  refine ⟨T1, ?_⟩
  have hU : w.grownBy U (some g) := ⟨G0.os, G0.tape, G0.output, G0.size, fun k hk _ => G0.block k hk (by simp)⟩
  have hg : wr.grownBy (wr.setRow q0 #[.int .i64 K, .int .i64 N, .float .f64 f, v]) (some q0) := ⟨rfl, rfl, rfl, by simp, fun q _ hq => setRow_other _ _ _ _ (fun e => hq (by rw [e]))⟩
  exact ⟨K, N, f, v, D, rfl, owns_lower (o.kept hg (oty_ne o T1 (by decide))) (by omega), hb, hM, hN, hf, cr.other hg (fun q hq => by cases hq; exact hgl), grown_new (grown_trans hU gr) hg (fun r hr => by cases hr; omega)⟩
theorem below_grown {w w' : World} (b : Below w.heap.size w w') : w.grownBy w' none := ⟨b.os, b.tape, b.output, b.size, fun k hk _ => b.block k hk⟩

theorem clean_any (K N : Int) (f : Nat) {ad : Option Addr} {n : Nat} (cap : Nat) (hnil : ad = none → cap = 0) {zs : List Int} {w : World} (h : Reads w ad n zs) (hf : f < 18446744073709551616) (hn : n ≤ 2097152) (hN : -9223372036854775808 ≤ N ∧ N ≤ 9223372036854775807) :
    Calls Try.prog 10 #[.agg #[.int .i64 K, .int .i64 N, .float .f64 f, .slice ad n cap]] w fun e w' => ∃ K' N' f' v D, e = .returned (.agg #[.int .i64 K', .int .i64 N', .float .f64 f', v]) ∧ w'.ownsRow w.heap.size 5 1 v D.length (bys D) ∧ (∀ i, 0 ≤ D.getD i 0 ∧ D.getD i 0 ≤ 255) ∧ D.length ≤ n ∧ (-9223372036854775808 ≤ N' ∧ N' ≤ 9223372036854775807) ∧ f' < 18446744073709551616 ∧ Below w.heap.size w w' := by
  by_cases hok : okI K N f n = true
  · refine (spec_ItemClean_yes K N f cap hnil h hf hn hok).mono ?_
    rintro e w' ⟨v, rfl, o, b⟩
    have hl := h.len
    subst hl
    exact ⟨K, N, _, v, zs, rfl, o, h.bd, Nat.le_refl _, hN, cleanF_lt hf, b⟩
  · refine (spec_ItemClean_no K N f ad n cap hf hn (by simpa using hok) w).mono ?_
    rintro e w' ⟨rfl, b⟩
    exact ⟨0, 0, 0, _, [], rfl, World.ownsRow_nil _ _ _ _, by simp, Nat.zero_le _, by omega, by omega, b⟩

set_option maxRecDepth 100000 in
set_option maxHeartbeats 12800000 in
theorem l3key {w : World} {g : Nat} {ad : Option Addr} {n cap : Nat} {zs : List Int} (c : Cur w g ad n cap zs) (hn : n ≤ 2097152) :
    Calls Try.prog 44 #[.pointer (some ⟨g, 0, none⟩)] w fun e w' => AnsI 1000 w g ad n cap zs e w' := by
  have hgl := c.lt
  go_enter Try.func44, Try.ntmps44
  go_wp2_with fail
  have c0 := c.alloc (.cells #[.int .i64 0, .int .i64 0, .float .f64 0, .slice none 0 0] 26)
  have G0 := hid (show w.grownBy (w.alloc (.cells #[.int .i64 0, .int .i64 0, .float .f64 0, .slice none 0 0] 26)) none from World.grownBy_alloc w _ none)
  have T0 := hid (heap_alloc_new w (.cells #[.int .i64 0, .int .i64 0, .float .f64 0, .slice none 0 0] 26))
  have Z0 := hid (show (w.alloc (.cells #[.int .i64 0, .int .i64 0, .float .f64 0, .slice none 0 0] 26)).heap.size = w.heap.size + 1 by simp)
  generalize w.alloc (.cells #[.int .i64 0, .int .i64 0, .float .f64 0, .slice none 0 0] 26) = U at *
  generalize hq0 : w.heap.size = q0 at *
  have HQ := hid hq0
  have hgu : g < U.heap.size := by have := Z0.out; omega
  clear c hq0
  refine (l1Below c0 hn 6 (by omega) (by omega)).mono ?_
  rintro e w1 ⟨t, rfl, ht0, ht1, c1, g1⟩
  clear c0
  by_cases t0 : t = 0
  · subst t0
    go_wp2_with fail
    refine (l1Below c1 hn 3 (by omega) (by omega)).mono ?_
    rintro e w2 ⟨y, rfl, hy0, hy1, c2, g2⟩
    have OL := hid (show (w2.alloc (.cells #[.int .u8 (97 + y)] 5)).ownsRow U.heap.size 5 1 (.slice (some ⟨w2.heap.size, 0, none⟩) 1 1) [97 + y].length (bys [97 + y]) from World.ownsRow_lit (base := U.heap.size) (e := 5) (size := 1) w2 #[.int .u8 (97 + y)] 1 ((grown_trans g1 g2)).size (by unfold maxLen; omega) rfl)
    have FA := finI (M := 1000) G0.out HQ.out Z0.out T0.out hgl (grown_new (grown_trans g1 g2) (World.grownBy_alloc w2 (.cells #[.int .u8 (97 + y)] 5) none) (fun r hr => by cases hr)) (c2.alloc (.cells #[.int .u8 (97 + y)] 5)) OL.out (fun i => by rcases i with _ | i <;> simp <;> omega) (by simp) (by omega) (by omega) (K := 3) (N := 0) (f := 0)
    have TQ := hid FA.1
    have AN := hid FA.2
    clear FA
    go_wp2_with (first
      | (refine wpList_store_row rfl 26 _ _ rfl q0 #[.int .i64 3, .int .i64 0, .float .f64 0, .slice (some ⟨w2.heap.size, 0, none⟩) 1 1] rfl rfl 26 _ TQ.out ?s1x1 ?s2x1 ?s3x1 ?_))
    case s1x1 => simpa using sizeIt
    try case s2x1 => rfl
    case s3x1 => simp [Value.oneCell']
    refine bodyPost_ret (results_cell_row Try.results44 _ _ q0 26 #[.int .i64 3, .int .i64 0, .float .f64 0, .slice (some ⟨w2.heap.size, 0, none⟩) 1 1] (0, 0) _ rfl (setRow_heap _ _ _ _ _ _ TQ.out) Try.underlying26 rfl sizeIt) rfl ?_
    exact AN.out
  by_cases t1 : t = 1
  · subst t1
    go_wp2_with fail
    refine (l1Below c1 hn 5 (by omega) (by omega)).mono ?_
    rintro e w2 ⟨y, rfl, hy0, hy1, c2, g2⟩
    obtain ⟨z, w7, hrun, hz, st⟩ := quo_run 24 (floatOfInt .f64 (y - 2)) 4611686018427387904 w2
    go_wp2_with fail
    have c7 := c2.still st.out
    have g7 := grown_still (grown_trans g1 g2) st.out
    clear hrun
    refine (clean_any 2 0 z (ad := none) (n := 0) 0 (fun _ => rfl) (zs := []) (w := w7) ⟨rfl, .inl rfl, by simp⟩ hz (by omega) (by omega)).mono ?_
    rintro e w8 ⟨K', N', f', v', D', rfl, o8, bd8, hD8, hN8, hf8, b8⟩
    obtain ⟨a8, c8, rfl⟩ : ∃ a c, v' = .slice a D'.length c := by
      rcases o8.2 with ⟨h1, h2⟩ | ⟨g', cap', cur, h1, _⟩
      · exact ⟨none, 0, by rw [h1, h2]⟩
      · exact ⟨_, _, h1⟩
    have O8 := hid (owns_lower o8 (g7).size)
    clear o8
    have FA := finI (M := 1000) G0.out HQ.out Z0.out T0.out hgl (grown_new g7 (below_grown b8) (fun r hr => by cases hr)) (c7.below b8 (Nat.le_refl _)) O8.out bd8 (by omega) hN8 hf8 (K := K') (N := N') (f := f')
    have TQ := hid FA.1
    have AN := hid FA.2
    clear FA
    go_wp2_with (first
      | (refine wpList_store_row rfl 26 _ _ rfl q0 #[.int .i64 K', .int .i64 N', .float .f64 f', (.slice a8 D'.length c8)] rfl rfl 26 _ TQ.out ?s1x2 ?s2x2 ?s3x2 ?_))
    case s1x2 => simpa using sizeIt
    try case s2x2 => rfl
    case s3x2 => simp [Value.oneCell']
    refine bodyPost_ret (results_cell_row Try.results44 _ _ q0 26 #[.int .i64 K', .int .i64 N', .float .f64 f', (.slice a8 D'.length c8)] (0, 0) _ rfl (setRow_heap _ _ _ _ _ _ TQ.out) Try.underlying26 rfl sizeIt) rfl ?_
    exact AN.out
  by_cases t2 : t = 2
  · subst t2
    go_wp2_with fail
    refine (l1Once c1 hn 3 (by omega) (by omega)).mono ?_
    rintro e w2 ⟨q, rfl, c2, g2⟩
    have G2 := grown_trans g1 g2
    cases q
    · go_wp2_with fail
      refine (l1Below c2 hn 6 (by omega) (by omega)).mono ?_
      rintro e w9 ⟨y9, rfl, hy90, hy91, c9, g9⟩
      have FA := finI (M := 1000) G0.out HQ.out Z0.out T0.out hgl (grown_trans G2 g9) c9 (show w9.ownsRow U.heap.size 5 1 (.slice none 0 0) ([] : List Int).length (bys []) from World.ownsRow_nil _ _ _ _) (by simp) (by simp) (by omega) (by omega) (K := 1) (N := (y9 - 1)) (f := 0)
      have TQ := hid FA.1
      have AN := hid FA.2
      clear FA
      go_wp2_with (first
        | (refine wpList_store_row rfl 26 _ _ rfl q0 #[.int .i64 1, .int .i64 (y9 - 1), .float .f64 0, .slice none 0 0] rfl rfl 26 _ TQ.out ?s1x3 ?s2x3 ?s3x3 ?_))
      case s1x3 => simpa using sizeIt
      try case s2x3 => rfl
      case s3x3 => simp [Value.oneCell']
      refine bodyPost_ret (results_cell_row Try.results44 _ _ q0 26 #[.int .i64 1, .int .i64 (y9 - 1), .float .f64 0, .slice none 0 0] (0, 0) _ rfl (setRow_heap _ _ _ _ _ _ TQ.out) Try.underlying26 rfl sizeIt) rfl ?_
      exact AN.out
    · go_wp2_with fail
      refine (l2float c2 hn).mono ?_
      rintro e w3 ⟨z, rfl, hz, c3, g3⟩
      have G3 := grown_trans G2 g3
      go_wp2_with fail
      refine (clean_any 2 0 z (ad := none) (n := 0) 0 (fun _ => rfl) (zs := []) (w := w3) ⟨rfl, .inl rfl, by simp⟩ hz (by omega) (by omega)).mono ?_
      rintro e w8 ⟨K', N', f', v', D', rfl, o8, bd8, hD8, hN8, hf8, b8⟩
      obtain ⟨a8, c8, rfl⟩ : ∃ a c, v' = .slice a D'.length c := by
        rcases o8.2 with ⟨h1, h2⟩ | ⟨g', cap', cur, h1, _⟩
        · exact ⟨none, 0, by rw [h1, h2]⟩
        · exact ⟨_, _, h1⟩
      have O8 := hid (owns_lower o8 (G3).size)
      clear o8
      have FA := finI (M := 1000) G0.out HQ.out Z0.out T0.out hgl (grown_new G3 (below_grown b8) (fun r hr => by cases hr)) (c3.below b8 (Nat.le_refl _)) O8.out bd8 (by omega) hN8 hf8 (K := K') (N := N') (f := f')
      have TQ := hid FA.1
      have AN := hid FA.2
      clear FA
      go_wp2_with (first
        | (refine wpList_store_row rfl 26 _ _ rfl q0 #[.int .i64 K', .int .i64 N', .float .f64 f', (.slice a8 D'.length c8)] rfl rfl 26 _ TQ.out ?s1x4 ?s2x4 ?s3x4 ?_))
      case s1x4 => simpa using sizeIt
      try case s2x4 => rfl
      case s3x4 => simp [Value.oneCell']
      refine bodyPost_ret (results_cell_row Try.results44 _ _ q0 26 #[.int .i64 K', .int .i64 N', .float .f64 f', (.slice a8 D'.length c8)] (0, 0) _ rfl (setRow_heap _ _ _ _ _ _ TQ.out) Try.underlying26 rfl sizeIt) rfl ?_
      exact AN.out
  by_cases t3 : t = 3
  · subst t3
    go_wp2_with fail
    refine (l1Once c1 hn 4 (by omega) (by omega)).mono ?_
    rintro e w2 ⟨q, rfl, c2, g2⟩
    have G2 := grown_trans g1 g2
    cases q
    · go_wp2_with fail
      refine (l1Below c2 hn 6 (by omega) (by omega)).mono ?_
      rintro e w9 ⟨y9, rfl, hy90, hy91, c9, g9⟩
      have FA := finI (M := 1000) G0.out HQ.out Z0.out T0.out hgl (grown_trans G2 g9) c9 (show w9.ownsRow U.heap.size 5 1 (.slice none 0 0) ([] : List Int).length (bys []) from World.ownsRow_nil _ _ _ _) (by simp) (by simp) (by omega) (by omega) (K := 1) (N := (y9 - 1)) (f := 0)
      have TQ := hid FA.1
      have AN := hid FA.2
      clear FA
      go_wp2_with (first
        | (refine wpList_store_row rfl 26 _ _ rfl q0 #[.int .i64 1, .int .i64 (y9 - 1), .float .f64 0, .slice none 0 0] rfl rfl 26 _ TQ.out ?s1x5 ?s2x5 ?s3x5 ?_))
      case s1x5 => simpa using sizeIt
      try case s2x5 => rfl
      case s3x5 => simp [Value.oneCell']
      refine bodyPost_ret (results_cell_row Try.results44 _ _ q0 26 #[.int .i64 1, .int .i64 (y9 - 1), .float .f64 0, .slice none 0 0] (0, 0) _ rfl (setRow_heap _ _ _ _ _ _ TQ.out) Try.underlying26 rfl sizeIt) rfl ?_
      exact AN.out
    · go_wp2_with fail
      refine (l1some2 c2 hn 40 (by omega) (by omega)).mono ?_
      rintro e w9 ⟨sv, SL, rfl, o9, bd9, hl9, -, c9, g9⟩
      obtain ⟨a9, q9, rfl⟩ : ∃ a c, sv = .slice a SL.length c := by
        rcases o9.2 with ⟨h1, h2⟩ | ⟨g', cap', cur, h1, _⟩
        · exact ⟨none, 0, by rw [h1, h2]⟩
        · exact ⟨_, _, h1⟩
      have O9 := hid (owns_lower o9 (G2).size)
      clear o9
      have FA := finI (M := 1000) G0.out HQ.out Z0.out T0.out hgl (grown_trans G2 g9) c9 O9.out bd9 hl9 (by omega) (by omega) (K := 3) (N := 0) (f := 0)
      have TQ := hid FA.1
      have AN := hid FA.2
      clear FA
      go_wp2_with (first
        | (refine wpList_store_row rfl 26 _ _ rfl q0 #[.int .i64 3, .int .i64 0, .float .f64 0, (.slice a9 SL.length q9)] rfl rfl 26 _ TQ.out ?s1x6 ?s2x6 ?s3x6 ?_))
      case s1x6 => simpa using sizeIt
      try case s2x6 => rfl
      case s3x6 => simp [Value.oneCell']
      refine bodyPost_ret (results_cell_row Try.results44 _ _ q0 26 #[.int .i64 3, .int .i64 0, .float .f64 0, (.slice a9 SL.length q9)] (0, 0) _ rfl (setRow_heap _ _ _ _ _ _ TQ.out) Try.underlying26 rfl sizeIt) rfl ?_
      exact AN.out
  go_wp2_with fail
  refine (l1Below c1 hn 6 (by omega) (by omega)).mono ?_
  rintro e w9 ⟨y9, rfl, hy90, hy91, c9, g9⟩
  have FA := finI (M := 1000) G0.out HQ.out Z0.out T0.out hgl (grown_trans g1 g9) c9 (show w9.ownsRow U.heap.size 5 1 (.slice none 0 0) ([] : List Int).length (bys []) from World.ownsRow_nil _ _ _ _) (by simp) (by simp) (by omega) (by omega) (K := 1) (N := (y9 - 1)) (f := 0)
  have TQ := hid FA.1
  have AN := hid FA.2
  clear FA
  go_wp2_with (first
    | (refine wpList_store_row rfl 26 _ _ rfl q0 #[.int .i64 1, .int .i64 (y9 - 1), .float .f64 0, .slice none 0 0] rfl rfl 26 _ TQ.out ?s1x7 ?s2x7 ?s3x7 ?_))
  case s1x7 => simpa using sizeIt
  try case s2x7 => rfl
  case s3x7 => simp [Value.oneCell']
  refine bodyPost_ret (results_cell_row Try.results44 _ _ q0 26 #[.int .i64 1, .int .i64 (y9 - 1), .float .f64 0, .slice none 0 0] (0, 0) _ rfl (setRow_heap _ _ _ _ _ _ TQ.out) Try.underlying26 rfl sizeIt) rfl ?_
  exact AN.out
end Go.Proofs.Ytlapfmfaammheaa
/- Plain arithmetic: the sum of 32 bits, one bit at a time and by a table. No conditions. -/


namespace Go.Proofs.Ytlapfmfaammheaa
open Go.RowKit

/-- One step of the sum: moved down by one bit, turned if a 1 fell out. -/
def st1 (x : Nat) : Nat := if x % 2 = 1 then x / 2 ^^^ 3988292384 else x / 2
/-- k steps. -/
def stN : Nat → Nat → Nat
  | 0, x => x
  | k + 1, x => st1 (stN k x)
theorem xor_lt32 (a b : Nat) (ha : a < 4294967296) (hb : b < 4294967296) : a ^^^ b < 4294967296 := Nat.xor_lt_two_pow (n := 32) ha hb
theorem st1_lt (x : Nat) (h : x < 4294967296) : st1 x < 4294967296 := by
  unfold st1; split
  · exact xor_lt32 _ _ (by omega) (by omega)
  · omega
theorem stN_lt (k x : Nat) (h : x < 4294967296) : stN k x < 4294967296 := by
  induction k with
  | zero => exact h
  | succ k ih => exact st1_lt _ ih
theorem xor_half (a b : Nat) : (a ^^^ b) / 2 = a / 2 ^^^ b / 2 := by
  have := Nat.shiftRight_xor_distrib (a := a) (b := b) (i := 1)
  simpa [Nat.shiftRight_eq_div_pow] using this
theorem xor_par (a b : Nat) : (a ^^^ b) % 2 = (a % 2 + b % 2) % 2 := by
  have h := @Nat.xor_mod_two_eq_one a b
  by_cases ha : a % 2 = 1 <;> by_cases hb : b % 2 = 1
  · have : ¬ (a ^^^ b) % 2 = 1 := fun e => (h.1 e) ⟨fun _ => hb, fun _ => ha⟩
    omega
  · have : (a ^^^ b) % 2 = 1 := h.2 (fun e => hb (e.1 ha))
    omega
  · have : (a ^^^ b) % 2 = 1 := h.2 (fun e => ha (e.2 hb))
    omega
  · have : ¬ (a ^^^ b) % 2 = 1 := fun e => (h.1 e) ⟨fun x => absurd x ha, fun x => absurd x hb⟩
    omega
theorem st1_xor (a b : Nat) : st1 (a ^^^ b) = st1 a ^^^ st1 b := by
  unfold st1
  rw [xor_half, xor_par]
  by_cases ha : a % 2 = 1 <;> by_cases hb : b % 2 = 1
  · rw [if_neg (by omega), if_pos ha, if_pos hb]
    rw [show a / 2 ^^^ 3988292384 ^^^ (b / 2 ^^^ 3988292384) = (a / 2 ^^^ b / 2) ^^^ (3988292384 ^^^ 3988292384) by ac_rfl]
    simp
  · rw [if_pos (by omega), if_pos ha, if_neg hb]; ac_rfl
  · rw [if_pos (by omega), if_neg ha, if_pos hb]; ac_rfl
  · rw [if_neg (by omega), if_neg ha, if_neg hb]
theorem stN_xor (k a b : Nat) : stN k (a ^^^ b) = stN k a ^^^ stN k b := by
  induction k with
  | zero => rfl
  | succ k ih => simp only [stN, ih, st1_xor]
theorem stN_high (y : Nat) : ∀ k, k ≤ 8 → stN k (y * 256) = y * 2 ^ (8 - k)
  | 0, _ => rfl
  | k + 1, h => by
    have ih := stN_high y k (by omega)
    rw [stN, ih, show 8 - k = (8 - (k + 1)) + 1 by omega, Nat.pow_succ]
    unfold st1
    rw [if_neg (by rw [← Nat.mul_assoc]; omega), ← Nat.mul_assoc]
    omega
theorem split256 (x : Nat) : x = (x / 256 * 256) ^^^ (x % 256) := by
  have h := Nat.shiftLeft_add_eq_or_of_lt (a := x / 256) (b := x % 256) (i := 8) (by omega)
  have e : x / 256 * 256 = (x / 256) <<< 8 := by rw [Nat.shiftLeft_eq]
  apply Nat.eq_of_testBit_eq
  intro i
  rw [Nat.testBit_xor, e]
  have hx : x = (x / 256) <<< 8 ||| x % 256 := by rw [← h, Nat.shiftLeft_eq]; omega
  have t1 : ((x / 256) <<< 8).testBit i = (decide (8 ≤ i) && (x / 256).testBit (i - 8)) := by rw [Nat.testBit_shiftLeft]
  have t2 : (x % 256).testBit i = (decide (i < 8) && x.testBit i) := by rw [show 256 = 2 ^ 8 by rfl, Nat.testBit_mod_two_pow]
  have t3 : x.testBit i = (((x / 256) <<< 8).testBit i || (x % 256).testBit i) := (congrArg (fun y => y.testBit i) hx).trans (by rw [Nat.testBit_or])
  rw [t3, t1, t2]
  by_cases h8 : 8 ≤ i
  · simp [h8, show ¬ i < 8 by omega]
  · simp [h8]
/-- The table's way and the bits' way are one. -/
theorem stN_table (x c : Nat) : stN 8 (x ^^^ c) = x / 256 ^^^ stN 8 (x % 256 ^^^ c) := by
  have e : x ^^^ c = (x / 256 * 256) ^^^ (x % 256 ^^^ c) := by rw [← Nat.xor_assoc, ← split256]
  rw [e, stN_xor, stN_high _ 8 (by omega)]; simp

/-- The sum behind one byte more. -/
def stp (x : Nat) (c : Int) : Nat := stN 8 (x ^^^ c.toNat)
/-- The sum behind a list of bytes. -/
def sumL (x : Nat) (l : List Int) : Nat := l.foldl stp x
theorem sumL_snoc (x : Nat) (l : List Int) (c : Int) : sumL x (l ++ [c]) = stp (sumL x l) c := by
  unfold sumL; rw [List.foldl_append, List.foldl_cons, List.foldl_nil]
theorem sumL_lt (l : List Int) (h : ∀ c ∈ l, c ≤ 255) : ∀ x, x < 4294967296 → sumL x l < 4294967296 := by
  induction l with
  | nil => intro x hx; exact hx
  | cons a r ih =>
    intro x hx
    unfold sumL
    rw [List.foldl_cons]
    exact ih (fun c hc => h c (by simp [hc])) _ (stN_lt _ _ (xor_lt32 _ _ hx (by have := h a (by simp); omega)))
/-- The sum behind the first k bytes. -/
def sumTo (zs : List Int) (k : Nat) : Nat := sumL 4294967295 (zs.take k)
theorem sumTo_zero (zs : List Int) : sumTo zs 0 = 4294967295 := by unfold sumTo sumL; rw [List.take_zero, List.foldl_nil]
theorem sumTo_succ (zs : List Int) (k : Nat) (h : k < zs.length) : sumTo zs (k + 1) = stp (sumTo zs k) (zs.getD k 0) := by
  unfold sumTo
  rw [List.take_add_one, List.getElem?_eq_getElem h, List.getD_eq_getElem?_getD, List.getElem?_eq_getElem h]
  exact sumL_snoc _ _ _
theorem sumTo_lt (zs : List Int) (hb : ∀ i, 0 ≤ zs.getD i 0 ∧ zs.getD i 0 ≤ 255) (k : Nat) : sumTo zs k < 4294967296 := by
  refine sumL_lt _ (fun c hc => ?_) _ (by omega)
  obtain ⟨i, hi, rfl⟩ := List.getElem_of_mem (List.mem_of_mem_take hc)
  have := (hb i).2
  rwa [List.getD_eq_getElem?_getD, List.getElem?_eq_getElem hi] at this
/-- What Crc answers. -/
def crcOf (zs : List Int) : Int := if 65536 < zs.length then -1 else ((sumTo zs zs.length ^^^ 4294967295 : Nat) : Int)
theorem crcOf_bd (zs : List Int) (hb : ∀ i, 0 ≤ zs.getD i 0 ∧ zs.getD i 0 ≤ 255) : -1 ≤ crcOf zs ∧ crcOf zs ≤ 4294967295 := by
  unfold crcOf; split
  · omega
  · have := xor_lt32 _ _ (sumTo_lt zs hb zs.length) (show 4294967295 < 4294967296 by omega); omega

theorem wrap_i64_in (n : Int) (h0 : 0 ≤ n) (h1 : n < 9223372036854775808) : IntKind.i64.wrap n = n := by
  rw [IntKind.wrap_i64]; omega
theorem i64_xor (a b : Nat) (ha : a < 4294967296) (hb : b < 4294967296) : bits .xor .i64 (a : Int) (b : Int) = ((a ^^^ b : Nat) : Int) := by
  have hx := xor_lt32 a b ha hb
  have h1 : (BitVec.ofInt 64 (a : Int)).toNat = a := by
    rw [BitVec.ofInt_natCast, BitVec.toNat_ofNat]; exact Nat.mod_eq_of_lt (by omega)
  have h2 : (BitVec.ofInt 64 (b : Int)).toNat = b := by
    rw [BitVec.ofInt_natCast, BitVec.toNat_ofNat]; exact Nat.mod_eq_of_lt (by omega)
  show IntKind.i64.wrap ((BitVec.ofInt 64 (a : Int) ^^^ BitVec.ofInt 64 (b : Int)).toNat : Int) = _
  rw [BitVec.toNat_xor, h1, h2, wrap_i64_in _ (by omega) (by omega)]
end Go.Proofs.Ytlapfmfaammheaa
/- Plain arithmetic: the number that bytes are, low first, and what GetNum answers. No conditions. -/

namespace Go.Proofs.Ytlapfmfaammheaa
open Go.RowKit

/-- The number that the c bytes from place k on are, low first. -/
def val (f : Nat → Int) : Nat → Nat → Int
  | _, 0 => 0
  | k, c + 1 => val f (k + 1) c * 256 + f k

theorem val_zero (f : Nat → Int) (k : Nat) : val f k 0 = 0 := rfl
theorem val_step (f : Nat → Int) (k size : Nat) (h : k < size) : val f k (size - k) = val f (k + 1) (size - (k + 1)) * 256 + f k := by
  obtain ⟨c, hc⟩ : ∃ c, size - k = c + 1 := ⟨size - k - 1, by omega⟩
  rw [hc, show size - (k + 1) = c by omega]; rfl
theorem val_nonneg (f : Nat → Int) (hf : ∀ j, 0 ≤ f j ∧ f j ≤ 255) : ∀ c k, 0 ≤ val f k c
  | 0, k => by simp [val]
  | c + 1, k => by have := val_nonneg f hf c (k + 1); have := hf k; simp only [val]; omega
theorem val_lt (f : Nat → Int) (hf : ∀ j, 0 ≤ f j ∧ f j ≤ 255) : ∀ c k, val f k c < 256 ^ c
  | 0, k => by simp [val]
  | c + 1, k => by
    have := val_lt f hf c (k + 1); have := hf k; simp only [val]
    have e : (256 : Int) ^ (c + 1) = 256 ^ c * 256 := by rw [Int.pow_succ]
    omega
theorem val_top (f : Nat → Int) (hf : ∀ j, 0 ≤ f j ∧ f j ≤ 255) : ∀ c k, f (k + c) ≤ 127 → val f k (c + 1) < 128 * 256 ^ c
  | 0, k, h => by simp [val] at h ⊢; omega
  | c + 1, k, h => by
    have := val_top f hf c (k + 1) (by rw [show k + 1 + c = k + (c + 1) by omega]; exact h)
    have := hf k
    have e : (256 : Int) ^ (c + 1) = 256 ^ c * 256 := by rw [Int.pow_succ]
    rw [show val f k (c + 1 + 1) = val f (k + 1) (c + 1) * 256 + f k from rfl]
    omega
theorem val_top_ge (f : Nat → Int) (hf : ∀ j, 0 ≤ f j ∧ f j ≤ 255) : ∀ c k, 128 ≤ f (k + c) → 128 * 256 ^ c ≤ val f k (c + 1)
  | 0, k, h => by simp [val] at h ⊢; omega
  | c + 1, k, h => by
    have := val_top_ge f hf c (k + 1) (by rw [show k + 1 + c = k + (c + 1) by omega]; exact h)
    have := hf k
    have e : (256 : Int) ^ (c + 1) = 256 ^ c * 256 := by rw [Int.pow_succ]
    rw [show val f k (c + 1 + 1) = val f (k + 1) (c + 1) * 256 + f k from rfl]
    omega

theorem pow256_le (c d : Nat) (h : c ≤ d) : (256 : Int) ^ c ≤ 256 ^ d := by
  induction h with
  | refl => exact Int.le_refl _
  | step h ih => rename_i m; have e : (256 : Int) ^ (m + 1) = 256 ^ m * 256 := by rw [Int.pow_succ]
                 have : (0 : Int) < 256 ^ m := Int.pow_pos (by decide)
                 omega

/-- Inside the loop nothing passes 2^55. -/
theorem val_in (f : Nat → Int) (hf : ∀ j, 0 ≤ f j ∧ f j ≤ 255) (k size : Nat) (h1 : 1 ≤ k) (hk : k ≤ size) (h8 : size ≤ 8) (ht : size = 8 → k ≤ 7 → f 7 ≤ 127) : val f k (size - k) ≤ 36028797018963967 := by
  by_cases e : size = 8 ∧ k ≤ 7
  · obtain ⟨rfl, h7⟩ := e
    have h := val_top f hf (7 - k) k (by rw [show k + (7 - k) = 7 by omega]; exact ht rfl h7)
    rw [show 7 - k + 1 = 8 - k by omega] at h
    have p := pow256_le (7 - k) 6 (by omega)
    have : (256 : Int) ^ 6 = 281474976710656 := by decide
    omega
  · have h := val_lt f hf (size - k) k
    have p := pow256_le (size - k) 6 (by omega)
    have : (256 : Int) ^ 6 = 281474976710656 := by decide
    omega
theorem val_56 (f : Nat → Int) (hf : ∀ j, 0 ≤ f j ∧ f j ≤ 255) (k size : Nat) (h1 : 1 ≤ k) (h8 : size ≤ 8) : val f k (size - k) ≤ 72057594037927935 := by
  have h := val_lt f hf (size - k) k
  have p := pow256_le (size - k) 7 (by omega)
  have : (256 : Int) ^ 7 = 72057594037927936 := by decide
  omega
theorem val_64 (f : Nat → Int) (hf : ∀ j, 0 ≤ f j ∧ f j ≤ 255) (k size : Nat) (h8 : size ≤ 8) : val f k (size - k) ≤ 18446744073709551615 := by
  have h := val_lt f hf (size - k) k
  have p := pow256_le (size - k) 8 (by omega)
  have : (256 : Int) ^ 8 = 18446744073709551616 := by decide
  omega

/-- The byte at a place, of the list zs. -/
def byteFrom (zs : List Int) (at' : Nat) (j : Nat) : Int := zs.getD (at' + j) 0
/-- The number that stands there. -/
def numAt (zs : List Int) (at' size : Int) : Int := val (byteFrom zs at'.toNat) 0 size.toNat
/-- Is there one? -/
def numOk (zs : List Int) (at' size : Int) : Bool := decide (1 ≤ size ∧ size ≤ 8 ∧ 0 ≤ at' ∧ at' + size ≤ zs.length ∧ numAt zs at' size ≤ 9223372036854775807)
/-- What GetNum answers beside it. -/
def numOf (zs : List Int) (at' size : Int) : Int := if numOk zs at' size = true then numAt zs at' size else 0
theorem num_no (zs : List Int) (at' size : Int) (h : ¬ (1 ≤ size ∧ size ≤ 8 ∧ 0 ≤ at' ∧ at' + size ≤ zs.length)) : numOk zs at' size = false ∧ numOf zs at' size = 0 := by
  have e : numOk zs at' size = false := by unfold numOk; rw [decide_eq_false]; omega
  exact ⟨e, by unfold numOf; rw [if_neg (by simp [e])]⟩
theorem num_big (zs : List Int) (at' size : Nat) (h : 9223372036854775807 < val (byteFrom zs at') 0 size) : numOk zs at' size = false ∧ numOf zs at' size = 0 := by
  have e : numOk zs at' size = false := by unfold numOk numAt; rw [decide_eq_false]; simp only [Int.toNat_natCast]; omega
  exact ⟨e, by unfold numOf; rw [if_neg (by simp [e])]⟩
theorem num_yes (zs : List Int) (at' size : Nat) (h1 : 1 ≤ size) (h8 : size ≤ 8) (hl : at' + size ≤ zs.length) (h : val (byteFrom zs at') 0 size ≤ 9223372036854775807) :
    numOk zs at' size = true ∧ numOf zs at' size = val (byteFrom zs at') 0 size := by
  have e : numOk zs at' size = true := by unfold numOk numAt; rw [decide_eq_true]; simp only [Int.toNat_natCast]; omega
  exact ⟨e, by unfold numOf; rw [if_pos e]; simp [numAt]⟩
end Go.Proofs.Ytlapfmfaammheaa
/- The draw of a number. For codes of at most 2^21 bytes. -/



namespace Go.Proofs.Ytlapfmfaammheaa
open Go.RowKit
theorem wrap_bd (n : Int) : -9223372036854775808 ≤ IntKind.i64.wrap n ∧ IntKind.i64.wrap n ≤ 9223372036854775807 := by
  rw [IntKind.wrap_i64]; omega

set_option maxRecDepth 100000 in
set_option maxHeartbeats 3200000 in
theorem l1number {w : World} {g : Nat} {ad : Option Addr} {n cap : Nat} {zs : List Int} (c : Cur w g ad n cap zs) (hn : n ≤ 2097152) :
    Calls Try.prog 85 #[.pointer (some ⟨g, 0, none⟩)] w fun e w' => ∃ x : Int, e = .returned (.int .i64 x) ∧ -9223372036854775808 ≤ x ∧ x ≤ 9223372036854775807 ∧ Cur w' g ad n cap zs ∧ w.grownBy w' (some g) := by
  go_enter Try.func85, Try.ntmps85
  go_wp2_with fail
  refine (l1Below c hn 1000 (by omega) (by omega)).mono ?_
  rintro e w1 ⟨x, rfl, hx0, hx1, c1, g1⟩
  go_wp2_with fail
  refine (l1Below c1 hn 6 (by omega) (by omega)).mono ?_
  rintro e w2 ⟨j, rfl, hj0, hj1, c2, g2⟩
  have G2 := grown_trans g1 g2
  clear c1 g1 g2 c
  go_wp2_with fail
  go_loopw [3, 4] (fun s i wr => ∃ (k : Nat) (y : Int), k ≤ 5 ∧ i = .int .i64 k ∧ s = .int .i64 y ∧ 0 ≤ y ∧ y < 1000 * 256 ^ (5 - k) ∧ Cur wr g ad n cap zs ∧ w.grownBy wr (some g)) (fun _ i _ => (intOf i).toNat)
  case atStart =>
    obtain ⟨k, rfl⟩ := Int.eq_ofNat_of_zero_le hj0
    have := pow256_le 0 (5 - k) (Nat.zero_le _)
    exact ⟨k, x, by omega, rfl, rfl, hx0, by omega, c2, G2⟩
  case round =>
    obtain ⟨k, y, hk, rfl, rfl, hy0, hy1, c3, g3⟩ := hrel
    by_cases hk0 : k = 0
    · subst hk0
      have hy2 : y < 1099511627776000 := by have : (256 : Int) ^ (5 - 0) = 1099511627776 := by decide
                                            omega
      clear hy1 c2 G2
      go_wp2_with fail
      refine (l1Below c3 hn 12 (by omega) (by omega)).mono ?_
      rintro e w4 ⟨t, rfl, ht0, ht1, c4, g4⟩
      have G4 := grown_trans g3 g4
      clear c3 g3 g4
      by_cases t0 : t = 0
      · subst t0
        go_wp2_with fail
        go_ret
        exact ⟨_, rfl, by omega, by omega, c4, G4⟩
      by_cases t1 : t = 1
      · subst t1
        go_wp2_with fail
        have c5 := hid (c4.still (Still.drew w4))
        have G5 := grown_still G4 (Still.drew w4)
        clear c4 G4
        go_region_held3 (fun _ => True) (trivial) (first
          | (go_at_call_of 41 (Value.int IntKind.i64 7); refine (l1Below c5.out hn 7 (by omega) (by omega)).mono ?_; rintro e w6 ⟨p, rfl, hp0, hp1, c6, g6⟩; have hs1 := wrap_i64_in (1 + p) (by omega) (by omega); have hs2 := wrap_i64_in (8 * (1 + p)) (by omega) (by omega); have hs3 := shift_shl .i64 .i64 1 (8 * (1 + p)) (by omega) (by show 8 * (1 + p) ≤ 64; omega))
          | (go_at_call_of 41 (Value.int IntKind.i64 2); refine (l1Below c6 hn 2 (by omega) (by omega)).mono ?_; rintro e w7 ⟨q, rfl, hq0, hq1, c7, g7⟩))
        go_wp2_with fail
        go_ret
        have hb := wrap_bd (IntKind.i64.wrap (2 ^ (8 * (1 + p)).toNat) - q)
        exact ⟨_, rfl, hb.1, hb.2, c7, grown_trans (grown_trans G5 g6) g7⟩
      by_cases t2 : t = 2
      · subst t2
        go_wp2_with fail
        go_ret
        exact ⟨_, rfl, by omega, by omega, c4, G4⟩
      by_cases t3 : t = 3
      · subst t3
        go_wp2_with fail
        go_ret
        exact ⟨_, rfl, by omega, by omega, c4, G4⟩
      go_wp2_with fail
      go_ret
      exact ⟨_, rfl, by omega, by omega, c4, G4⟩
    · obtain ⟨m, rfl⟩ : ∃ m, k = m + 1 := ⟨k - 1, by omega⟩
      have p4 := pow256_le (5 - (m + 1)) 4 (by omega)
      have e4 : (256 : Int) ^ 4 = 4294967296 := by decide
      have ps : Hid ((256 : Int) ^ (5 - m) = 256 ^ (5 - (m + 1)) * 256) := by
        unfold Hid; rw [show 5 - m = 5 - (m + 1) + 1 by omega, Int.pow_succ]
      generalize (256 : Int) ^ (5 - (m + 1)) = P at *
      have hy2 : y < 4294967296000 := by omega
      have HY := hid hy1
      clear hy1 c2 G2 p4 e4
      go_wp2_with fail
      refine (l1Byte c3 hn).mono ?_
      rintro e w4 ⟨u, rfl, hu0, hu1, c4, g4⟩
      have G4 := grown_trans g3 g4
      clear c3 g3 g4
      go_wp2_with fail
      go_roundw
      case rel => exact ⟨m, _, by omega, by go_num, rfl, by omega, by rw [ps.out]; have := HY.out; omega, c4, G4⟩
      case measure => simp [intOf]

end Go.Proofs.Ytlapfmfaammheaa
/- The contract of the draw of a value. For codes of at most 2^21 bytes. -/


namespace Go.Proofs.Ytlapfmfaammheaa
open Go.RowKit

set_option maxRecDepth 100000 in
set_option maxHeartbeats 12800000 in
theorem l3value {w : World} {g : Nat} {ad : Option Addr} {n cap : Nat} {zs : List Int} (c : Cur w g ad n cap zs) (hn : n ≤ 2097152) :
    Calls Try.prog 51 #[.pointer (some ⟨g, 0, none⟩)] w fun e w' => AnsI 1000 w g ad n cap zs e w' := by
  have hgl := c.lt
  go_enter Try.func51, Try.ntmps51
  go_wp2_with fail
  have c0 := c.alloc (.cells #[.int .i64 0, .int .i64 0, .float .f64 0, .slice none 0 0] 26)
  have G0 := hid (show w.grownBy (w.alloc (.cells #[.int .i64 0, .int .i64 0, .float .f64 0, .slice none 0 0] 26)) none from World.grownBy_alloc w _ none)
  have T0 := hid (heap_alloc_new w (.cells #[.int .i64 0, .int .i64 0, .float .f64 0, .slice none 0 0] 26))
  have Z0 := hid (show (w.alloc (.cells #[.int .i64 0, .int .i64 0, .float .f64 0, .slice none 0 0] 26)).heap.size = w.heap.size + 1 by simp)
  generalize w.alloc (.cells #[.int .i64 0, .int .i64 0, .float .f64 0, .slice none 0 0] 26) = U at *
  generalize hq0 : w.heap.size = q0 at *
  have HQ := hid hq0
  have hgu : g < U.heap.size := by have := Z0.out; omega
  clear c hq0
  refine (l1Below c0 hn 5 (by omega) (by omega)).mono ?_
  rintro e w1 ⟨t, rfl, ht0, ht1, c1, g1⟩
  clear c0
  by_cases t0 : t = 0
  · subst t0
    go_wp2_with fail
    refine (l1some2 c1 hn 8 (by omega) (by omega)).mono ?_
    rintro e w9 ⟨sv, SL, rfl, o9, bd9, hl9, -, c9, g9⟩
    obtain ⟨a9, q9, rfl⟩ : ∃ a c, sv = .slice a SL.length c := by
      rcases o9.2 with ⟨h1, h2⟩ | ⟨g', cap', cur, h1, _⟩
      · exact ⟨none, 0, by rw [h1, h2]⟩
      · exact ⟨_, _, h1⟩
    have O9 := hid (owns_lower o9 (g1).size)
    clear o9
    have FA := finI (M := 1000) G0.out HQ.out Z0.out T0.out hgl (grown_trans g1 g9) c9 O9.out bd9 hl9 (by omega) (by omega) (K := 3) (N := 0) (f := 0)
    have TQ := hid FA.1
    have AN := hid FA.2
    clear FA
    go_wp2_with (first
      | (refine wpList_store_row rfl 26 _ _ rfl q0 #[.int .i64 3, .int .i64 0, .float .f64 0, (.slice a9 SL.length q9)] rfl rfl 26 _ TQ.out ?s1x1 ?s2x1 ?s3x1 ?_))
    case s1x1 => simpa using sizeIt
    try case s2x1 => rfl
    case s3x1 => simp [Value.oneCell']
    refine bodyPost_ret (results_cell_row Try.results51 _ _ q0 26 #[.int .i64 3, .int .i64 0, .float .f64 0, (.slice a9 SL.length q9)] (0, 0) _ rfl (setRow_heap _ _ _ _ _ _ TQ.out) Try.underlying26 rfl sizeIt) rfl ?_
    exact AN.out
  by_cases t1 : t = 1
  · subst t1
    go_wp2_with fail
    refine (l2float c1 hn).mono ?_
    rintro e w3 ⟨z, rfl, hz, c3, g3⟩
    have G3 := grown_trans g1 g3
    have FA := finI (M := 1000) G0.out HQ.out Z0.out T0.out hgl G3 c3 (show w3.ownsRow U.heap.size 5 1 (.slice none 0 0) ([] : List Int).length (bys []) from World.ownsRow_nil _ _ _ _) (by simp) (by simp) (by omega) hz (K := 2) (N := 0) (f := z)
    have TQ := hid FA.1
    have AN := hid FA.2
    clear FA
    go_wp2_with (first
      | (refine wpList_store_row rfl 26 _ _ rfl q0 #[.int .i64 2, .int .i64 0, .float .f64 z, .slice none 0 0] rfl rfl 26 _ TQ.out ?s1x2 ?s2x2 ?s3x2 ?_))
    case s1x2 => simpa using sizeIt
    try case s2x2 => rfl
    case s3x2 => simp [Value.oneCell']
    refine bodyPost_ret (results_cell_row Try.results51 _ _ q0 26 #[.int .i64 2, .int .i64 0, .float .f64 z, .slice none 0 0] (0, 0) _ rfl (setRow_heap _ _ _ _ _ _ TQ.out) Try.underlying26 rfl sizeIt) rfl ?_
    exact AN.out
  by_cases t2 : t = 2
  · subst t2
    go_wp2_with fail
    refine (l1Below c1 hn 64 (by omega) (by omega)).mono ?_
    rintro e w2 ⟨y, rfl, hy0, hy1, c2, g2⟩
    obtain ⟨z, w7, hrun, hz, st⟩ := quo_run 24 (floatOfInt .f64 (y - 32)) 4616189618054758400 w2
    have c7 := c2.still st.out
    have g7 := grown_still (grown_trans g1 g2) st.out
    have FA := finI (M := 1000) G0.out HQ.out Z0.out T0.out hgl g7 c7 (show w7.ownsRow U.heap.size 5 1 (.slice none 0 0) ([] : List Int).length (bys []) from World.ownsRow_nil _ _ _ _) (by simp) (by simp) (by omega) hz (K := 2) (N := 0) (f := z)
    have TQ := hid FA.1
    have AN := hid FA.2
    clear FA
    go_wp2_with (first
      | (refine wpList_store_row rfl 26 _ _ rfl q0 #[.int .i64 2, .int .i64 0, .float .f64 z, .slice none 0 0] rfl rfl 26 _ TQ.out ?s1x3 ?s2x3 ?s3x3 ?_))
    case s1x3 => simpa using sizeIt
    try case s2x3 => rfl
    case s3x3 => simp [Value.oneCell']
    refine bodyPost_ret (results_cell_row Try.results51 _ _ q0 26 #[.int .i64 2, .int .i64 0, .float .f64 z, .slice none 0 0] (0, 0) _ rfl (setRow_heap _ _ _ _ _ _ TQ.out) Try.underlying26 rfl sizeIt) rfl ?_
    exact AN.out
  by_cases t3 : t = 3
  · subst t3
    go_wp2_with fail
    refine (l1Once c1 hn 5 (by omega) (by omega)).mono ?_
    rintro e w2 ⟨q, rfl, c2, g2⟩
    have G2 := grown_trans g1 g2
    cases q
    · go_wp2_with fail
      refine (l1number c2 hn).mono ?_
      rintro e w9 ⟨y9, rfl, hy90, hy91, c9, g9⟩
      have FA := finI (M := 1000) G0.out HQ.out Z0.out T0.out hgl (grown_trans G2 g9) c9 (show w9.ownsRow U.heap.size 5 1 (.slice none 0 0) ([] : List Int).length (bys []) from World.ownsRow_nil _ _ _ _) (by simp) (by simp) (by omega) (by omega) (K := 1) (N := y9) (f := 0)
      have TQ := hid FA.1
      have AN := hid FA.2
      clear FA
      go_wp2_with (first
        | (refine wpList_store_row rfl 26 _ _ rfl q0 #[.int .i64 1, .int .i64 y9, .float .f64 0, .slice none 0 0] rfl rfl 26 _ TQ.out ?s1x4 ?s2x4 ?s3x4 ?_))
      case s1x4 => simpa using sizeIt
      try case s2x4 => rfl
      case s3x4 => simp [Value.oneCell']
      refine bodyPost_ret (results_cell_row Try.results51 _ _ q0 26 #[.int .i64 1, .int .i64 y9, .float .f64 0, .slice none 0 0] (0, 0) _ rfl (setRow_heap _ _ _ _ _ _ TQ.out) Try.underlying26 rfl sizeIt) rfl ?_
      exact AN.out
    · go_wp2_with fail
      refine (l1some2 c2 hn 40 (by omega) (by omega)).mono ?_
      rintro e w9 ⟨sv, SL, rfl, o9, bd9, hl9, -, c9, g9⟩
      obtain ⟨a9, q9, rfl⟩ : ∃ a c, sv = .slice a SL.length c := by
        rcases o9.2 with ⟨h1, h2⟩ | ⟨g', cap', cur, h1, _⟩
        · exact ⟨none, 0, by rw [h1, h2]⟩
        · exact ⟨_, _, h1⟩
      have O9 := hid (owns_lower o9 (G2).size)
      clear o9
      have FA := finI (M := 1000) G0.out HQ.out Z0.out T0.out hgl (grown_trans G2 g9) c9 O9.out bd9 hl9 (by omega) (by omega) (K := 3) (N := 0) (f := 0)
      have TQ := hid FA.1
      have AN := hid FA.2
      clear FA
      go_wp2_with (first
        | (refine wpList_store_row rfl 26 _ _ rfl q0 #[.int .i64 3, .int .i64 0, .float .f64 0, (.slice a9 SL.length q9)] rfl rfl 26 _ TQ.out ?s1x5 ?s2x5 ?s3x5 ?_))
      case s1x5 => simpa using sizeIt
      try case s2x5 => rfl
      case s3x5 => simp [Value.oneCell']
      refine bodyPost_ret (results_cell_row Try.results51 _ _ q0 26 #[.int .i64 3, .int .i64 0, .float .f64 0, (.slice a9 SL.length q9)] (0, 0) _ rfl (setRow_heap _ _ _ _ _ _ TQ.out) Try.underlying26 rfl sizeIt) rfl ?_
      exact AN.out
  go_wp2_with fail
  refine (l1number c1 hn).mono ?_
  rintro e w9 ⟨y9, rfl, hy90, hy91, c9, g9⟩
  have FA := finI (M := 1000) G0.out HQ.out Z0.out T0.out hgl (grown_trans g1 g9) c9 (show w9.ownsRow U.heap.size 5 1 (.slice none 0 0) ([] : List Int).length (bys []) from World.ownsRow_nil _ _ _ _) (by simp) (by simp) (by omega) (by omega) (K := 1) (N := y9) (f := 0)
  have TQ := hid FA.1
  have AN := hid FA.2
  clear FA
  go_wp2_with (first
    | (refine wpList_store_row rfl 26 _ _ rfl q0 #[.int .i64 1, .int .i64 y9, .float .f64 0, .slice none 0 0] rfl rfl 26 _ TQ.out ?s1x6 ?s2x6 ?s3x6 ?_))
  case s1x6 => simpa using sizeIt
  try case s2x6 => rfl
  case s3x6 => simp [Value.oneCell']
  refine bodyPost_ret (results_cell_row Try.results51 _ _ q0 26 #[.int .i64 1, .int .i64 y9, .float .f64 0, .slice none 0 0] (0, 0) _ rfl (setRow_heap _ _ _ _ _ _ TQ.out) Try.underlying26 rfl sizeIt) rfl ?_
  exact AN.out
end Go.Proofs.Ytlapfmfaammheaa
/- An item in a block of its own, and its text. -/

namespace Go.Proofs.Ytlapfmfaammheaa
open Go.RowKit

structure Arg (w : World) (g : Nat) (K N : Int) (f : Nat) (ad : Option Addr) (n cap : Nat) (zs : List Int) : Prop where
  box : Box w g K N f ad n cap
  reads : Reads w ad n zs
  lt : g < w.heap.size

theorem Arg.below {w w' : World} {g : Nat} {K N : Int} {f : Nat} {ad : Option Addr} {n cap : Nat} {zs : List Int} (a : Arg w g K N f ad n cap zs) {B : Nat} (h : Below B w w') (hB : w.heap.size ≤ B) : Arg w' g K N f ad n cap zs :=
  ⟨a.box.below h (Nat.lt_of_lt_of_le a.lt hB), a.reads.below h hB, Nat.lt_of_lt_of_le a.lt h.size⟩
theorem Arg.alloc {w : World} {g : Nat} {K N : Int} {f : Nat} {ad : Option Addr} {n cap : Nat} {zs : List Int} (a : Arg w g K N f ad n cap zs) (o : Obj) : Arg (w.alloc o) g K N f ad n cap zs :=
  a.below ((Below.refl w.heap.size w).alloc (Nat.le_refl _) o) (Nat.le_refl _)
theorem Reads.alloc {w : World} {ad : Option Addr} {n : Nat} {zs : List Int} (h : Reads w ad n zs) (o : Obj) : Reads (w.alloc o) ad n zs :=
  h.below ((Below.refl w.heap.size w).alloc (Nat.le_refl _) o) (Nat.le_refl _)
theorem Arg.new {w : World} (K N : Int) (f : Nat) {ad : Option Addr} {n : Nat} (cap : Nat) {zs : List Int} (h : Reads w ad n zs) (t : TypeId) (g : Nat) (hg : g = w.heap.size) : Arg (w.alloc (.cells #[.int .i64 K, .int .i64 N, .float .f64 f, .slice ad n cap] t)) g K N f ad n cap zs := by
  subst hg
  exact ⟨Box.new w K N f ad n cap t, h.alloc _, by rw [alloc_size]; omega⟩
theorem Below.drewN {B : Nat} (w : World) (k : Nat) : Below B w (w.drewN k) := (Still.drewN w k).below B
theorem Arg.drewN {w : World} {g : Nat} {K N : Int} {f : Nat} {ad : Option Addr} {n cap : Nat} {zs : List Int} (a : Arg w g K N f ad n cap zs) (k : Nat) : Arg (w.drewN k) g K N f ad n cap zs :=
  a.below ((Still.drewN w k).below w.heap.size) (Nat.le_refl _)
theorem Below.alloc1 (w : World) (o : Obj) : Below w.heap.size w (w.alloc o) := (Below.refl w.heap.size w).alloc (Nat.le_refl _) o
end Go.Proofs.Ytlapfmfaammheaa
/- An item that is being drawn: its box, its text, the cursor; what stays. No statement of its own; no conditions. -/


namespace Go.Proofs.Ytlapfmfaammheaa
open Go.RowKit

/-- An item that is being drawn, in the box p; since the world w, nothing but the cursor and what is new has turned. -/
structure Bi (w : World) (g p : Nat) (ad : Option Addr) (n cap : Nat) (zs : List Int) (wr : World) (K N : Int) (f : Nat) (v : Value) (D : List Int) : Prop where
  gl : g < w.heap.size
  lo : w.heap.size ≤ p
  gr : w.grownBy wr (some g)
  cur : Cur wr g ad n cap zs
  box : wr.heap[p]? = some (.cells #[.int .i64 K, .int .i64 N, .float .f64 f, v] 26)
  own : wr.ownsRow w.heap.size 5 1 v D.length (bys D)
  bd : ∀ i, 0 ≤ D.getD i 0 ∧ D.getD i 0 ≤ 255
section
variable {w : World} {g p : Nat} {ad : Option Addr} {n cap : Nat} {zs : List Int} {wr w' : World} {K N : Int} {f : Nat} {v : Value} {D : List Int}
theorem Bi.size (h : Bi w g p ad n cap zs wr K N f v D) : w.heap.size ≤ wr.heap.size := h.gr.size
theorem Bi.plt (h : Bi w g p ad n cap zs wr K N f v D) : p < wr.heap.size := (Array.getElem?_eq_some_iff.1 h.box).1
theorem Bi.form0 (h : Bi w g p ad n cap zs wr K N f v D) : ∃ a m c, v = .slice a m c := by
  rcases h.own.2 with ⟨h1, _⟩ | ⟨g', cap', cur, h1, _⟩
  · exact ⟨_, _, _, h1⟩
  · exact ⟨_, _, _, h1⟩
theorem Bi.cells {a : Option Addr} {m c : Nat} (h : Bi w g p ad n cap zs wr K N f (.slice a m c) D) : Box wr p K N f a m c := by
  have t := h.box
  refine ⟨?_, ?_, ?_, ?_⟩ <;> (rw [cell_of_row _ _ _ _ _ _ t]; rfl)
theorem Bi.c3 {a : Option Addr} {m c : Nat} (h : Bi w g p ad n cap zs wr K N f (.slice a m c) D) : wr.cell? ⟨p, 3, none⟩ = some (.slice a m c) := h.cells.c3
theorem Bi.form (h : Bi w g p ad n cap zs wr K N f v D) : ∃ a c, v = .slice a D.length c ∧ (a = none → c = 0) := by
  rcases h.own.2 with ⟨h1, h2⟩ | ⟨g', cap', cur, h1, _⟩
  · exact ⟨none, 0, by rw [h1, h2], fun _ => rfl⟩
  · exact ⟨_, _, h1, fun hh => by cases hh⟩
theorem Bi.froz (h : Bi w g p ad n cap zs wr K N f v D) (i : Nat) : wr.frozen? ⟨p, i, none⟩ = false := frozen_of_row _ _ _ _ _ h.box
theorem Bi.still (h : Bi w g p ad n cap zs wr K N f v D) (hs : Still wr w') : Bi w g p ad n cap zs w' K N f v D :=
  ⟨h.gl, h.lo, grown_still h.gr hs, h.cur.still hs, by rw [hs.heap]; exact h.box, owns_agree (lo := 0) (hi := wr.heap.size) h.own (fun k _ _ => by rw [hs.heap]) (fun k hk => ⟨Nat.zero_le _, (h.own.lt k hk).2⟩), h.bd⟩
theorem Bi.drew (h : Bi w g p ad n cap zs wr K N f v D) : Bi w g p ad n cap zs wr.drew K N f v D := h.still (Still.drew wr)
theorem Bi.cursor (h : Bi w g p ad n cap zs wr K N f v D) (c' : Cur w' g ad n cap zs) (hg : wr.grownBy w' (some g)) : Bi w g p ad n cap zs w' K N f v D := by
  have hl := h.lo
  have hgl := h.gl
  refine ⟨h.gl, h.lo, grown_trans h.gr hg, c', (hg.block p h.plt (by simp; omega)).trans h.box, h.own.kept hg ?_, h.bd⟩
  cases hv : v.ownBlock with
  | none => exact .inl rfl
  | some k => exact .inr (by have := (h.own.lt k hv).1; simp; omega)
theorem Bi.alloc (h : Bi w g p ad n cap zs wr K N f v D) (o : Obj) : Bi w g p ad n cap zs (wr.alloc o) K N f v D := by
  have hg := World.grownBy_alloc wr o none
  exact ⟨h.gl, h.lo, grown_new h.gr hg (fun r hr => by cases hr), h.cur.alloc o, (hg.block p h.plt (by simp)).trans h.box, h.own.alloc o, h.bd⟩
theorem Bi.fresh (h : Bi w g p ad n cap zs wr K N f v D) (hg : wr.grownBy w' none) : Bi w g p ad n cap zs w' K N f v D :=
  ⟨h.gl, h.lo, grown_new h.gr hg (fun r hr => by cases hr), h.cur.other hg (fun r hr => by cases hr), (hg.block p h.plt (by simp)).trans h.box, h.own.kept hg (by cases hv : v.ownBlock <;> simp), h.bd⟩
theorem Bi.set (h : Bi w g p ad n cap zs wr K N f v D) (i : Nat) (u : Value) {K' N' : Int} {f' : Nat} {v' : Value} {D' : List Int} (hu : (#[.int .i64 K, .int .i64 N, .float .f64 f, v] : Array Value).setIfInBounds i u = #[.int .i64 K', .int .i64 N', .float .f64 f', v'])
    (o : wr.ownsRow w.heap.size 5 1 v' D'.length (bys D')) (hb : ∀ i, 0 ≤ D'.getD i 0 ∧ D'.getD i 0 ≤ 255) : Bi w g p ad n cap zs (wr.setCell ⟨p, i, none⟩ u) K' N' f' v' D' := by
  have hg := grown_setCell wr p i u
  have hl := h.lo
  have hgl := h.gl
  refine ⟨h.gl, h.lo, grown_new h.gr hg (fun q hq => by cases hq; exact hl), h.cur.other hg (fun q hq => by cases hq; omega), ?_, o.kept hg (oty_ne o h.box (by decide)), hb⟩
  rw [heap_setCell_same wr p i _ _ u h.box, hu]
theorem Bi.setK (h : Bi w g p ad n cap zs wr K N f v D) (x : Int) : Bi w g p ad n cap zs (wr.setCell ⟨p, 0, none⟩ (.int .i64 x)) x N f v D := h.set 0 _ rfl h.own h.bd
theorem Bi.setN (h : Bi w g p ad n cap zs wr K N f v D) (x : Int) : Bi w g p ad n cap zs (wr.setCell ⟨p, 1, none⟩ (.int .i64 x)) K x f v D := h.set 1 _ rfl h.own h.bd
theorem Bi.setF (h : Bi w g p ad n cap zs wr K N f v D) (x : Nat) : Bi w g p ad n cap zs (wr.setCell ⟨p, 2, none⟩ (.float .f64 x)) K N x v D := h.set 2 _ rfl h.own h.bd
theorem Bi.setV (h : Bi w g p ad n cap zs wr K N f v D) {v' : Value} {D' : List Int} (o : wr.ownsRow w.heap.size 5 1 v' D'.length (bys D')) (hb : ∀ i, 0 ≤ D'.getD i 0 ∧ D'.getD i 0 ≤ 255) : Bi w g p ad n cap zs (wr.setCell ⟨p, 3, none⟩ v') K N f v' D' := h.set 3 _ rfl o hb
/-- The whole box is written. -/
theorem Bi.row (h : Bi w g p ad n cap zs wr K N f v D) {K' N' : Int} {f' : Nat} {v' : Value} {D' : List Int} (o : wr.ownsRow w.heap.size 5 1 v' D'.length (bys D')) (hb : ∀ i, 0 ≤ D'.getD i 0 ∧ D'.getD i 0 ≤ 255) : Bi w g p ad n cap zs (wr.setRow p #[.int .i64 K', .int .i64 N', .float .f64 f', v']) K' N' f' v' D' := by
  have hg : wr.grownBy (wr.setRow p #[.int .i64 K', .int .i64 N', .float .f64 f', v']) (some p) := ⟨rfl, rfl, rfl, by simp, fun q _ hq => setRow_other _ _ _ _ (fun e => hq (by rw [e]))⟩
  have hl := h.lo
  have hgl := h.gl
  exact ⟨h.gl, h.lo, grown_new h.gr hg (fun q hq => by cases hq; exact hl), h.cur.other hg (fun q hq => by cases hq; omega), setRow_heap _ _ _ _ _ _ h.box, o.kept hg (oty_ne o h.box (by decide)), hb⟩
/-- The data's row is grown; then the box is told. -/
theorem Bi.grow (h : Bi w g p ad n cap zs wr K N f v D) (hg : wr.grownBy w' v.ownBlock) : w'.heap[p]? = some (.cells #[.int .i64 K, .int .i64 N, .float .f64 f, v] 26) ∧ Cur w' g ad n cap zs ∧ w.grownBy w' (some g) := by
  have hgl := h.gl
  refine ⟨(hg.block p h.plt (fun e => ?_)).trans h.box, h.cur.other hg (fun q hq => by have := (h.own.lt q hq).1; omega), grown_new h.gr hg (fun q hq => (h.own.lt q hq).1)⟩
  rcases oty_ne h.own h.box (by decide) with h1 | h1
  · rw [h1] at e; cases e
  · exact h1 e.symm
theorem Bi.app (h : Bi w g p ad n cap zs wr K N f v D) (hg : wr.grownBy w' v.ownBlock) {v' : Value} {D' : List Int} (o : w'.ownsRow w.heap.size 5 1 v' D'.length (bys D')) (hb : ∀ i, 0 ≤ D'.getD i 0 ∧ D'.getD i 0 ≤ 255) : Bi w g p ad n cap zs (w'.setCell ⟨p, 3, none⟩ v') K N f v' D' := by
  obtain ⟨hbox, hc, hgr⟩ := h.grow hg
  have hs := grown_setCell w' p 3 v'
  have hl := h.lo
  have hgl := h.gl
  refine ⟨h.gl, h.lo, grown_new hgr hs (fun q hq => by cases hq; exact hl), hc.other hs (fun q hq => by cases hq; omega), ?_, o.kept hs (oty_ne o hbox (by decide)), hb⟩
  rw [heap_setCell_same w' p 3 _ _ v' hbox]; rfl
theorem Bi.start {v : Value} {D : List Int} (hgl : g < w.heap.size) (hgr : w.grownBy wr (some g)) (hc : Cur wr g ad n cap zs) (o : wr.ownsRow w.heap.size 5 1 v D.length (bys D)) (hb : ∀ i, 0 ≤ D.getD i 0 ∧ D.getD i 0 ≤ 255) :
    Bi w g wr.heap.size ad n cap zs (wr.alloc (.cells #[.int .i64 K, .int .i64 N, .float .f64 f, v] 26)) K N f v D :=
  ⟨hgl, hgr.size, grown_new hgr (World.grownBy_alloc wr _ none) (fun r hr => by cases hr), hc.alloc _, heap_alloc_new wr _, o.alloc _, hb⟩
end
end Go.Proofs.Ytlapfmfaammheaa
/- A region that draws its order, one of whose operations (number L, a store) waits for all that read: a condition on the world that is shown behind every operation but that one. No statement of its own; no conditions. -/

namespace Go.Proofs.Ytlapfmfaammheaa
open Go

/-- Operation L waits for operation i. -/
def waitsFor (md : Region.Mode) (ops : Array Oper) (L i : Nat) : Bool :=
  match ops[L]? with
  | some o => o.after.any fun e => Region.binds md e && e.on == i
  | none => false

section
variable {P : Program} {ops : Array Oper} {Q : Exit → Act → World → Prop} {md : Region.Mode} {S : World → Prop} {L : Nat}

/-- Whatever order is picked, S holding behind every operation but L. -/
def anyK (P : Program) (md : Region.Mode) (ops : Array Oper) (Q : Exit → Act → World → Prop) (S : World → Prop) (L : Nat) : Nat → Array Bool → Act → World → Prop
  | 0, listed, a, w => Region.ready md ops listed = [] ∧ Q .normal a w
  | n + 1, listed, a, w => (Region.ready md ops listed = [] → Q .normal a w) ∧
      ∀ i ∈ Region.ready md ops listed, wpOp P ops Q i (fun a' w' => (i = L ∨ S w') ∧ anyK P md ops Q S L n (listed.setIfInBounds i true) a' w') a w

theorem anyK_any : ∀ (n : Nat) (listed : Array Bool) (a : Act) (w : World), anyK P md ops Q S L n listed a w → wpAny P md ops Q n listed a w
  | 0, _, _, _, h => h
  | n + 1, _, _, _, h => ⟨h.1, fun i hi => wpOp_mono (fun a' w' k => anyK_any n _ a' w' k.2) (h.2 i hi)⟩

theorem anyK_first {i : Nat} {oi : Oper} {v : Value} (hi : ops[i]? = some oi) (hsel : ∀ (j : Nat) (o : Oper) cs b, ops[j]? = some o → o.op ≠ .select cs b)
    (hQ : ∀ c a w, Q (.panic c) (a.put oi.dst v) w → Q (.panic c) a w) (hL : waitsFor md ops L i = true) (n : Nat) : ∀ (listed : Array Bool) (a : Act) (w : World),
      (∀ j oj, ops[j]? = some oj → j ≠ i → listed.getD j true = false → (∀ e ∈ oj.after, Region.binds md e = true → e.on ≠ i) → oi.apart ops oj = true) →
      i ∈ Region.ready md ops listed → YieldsIf P ops S oi v a → S w →
      anyK P md ops Q S L n (listed.setIfInBounds i true) (a.put oi.dst v) w → anyK P md ops Q S L (n + 1) listed a w := by
  induction n with
  | zero =>
    intro listed a w _ hr hy hS H
    refine ⟨fun e => absurd hr (by rw [e]; simp), fun j hj => ?_⟩
    rcases Nat.decEq j i with hne | heq
    · have hm := ready_mono hj hne
      rw [H.1] at hm
      cases hm
    · subst heq
      exact hy.wpOp hi hS ⟨.inr hS, H⟩
  | succ n ih =>
    intro listed a w hfree hr hy hS H
    refine ⟨fun e => absurd hr (by rw [e]; simp), fun j hj => ?_⟩
    rcases Nat.decEq j i with hne | heq
    · obtain ⟨hju, oj, hoj, hall⟩ := mem_ready.1 hj
      have hunl := (mem_ready.1 hr).1
      have hno : ∀ e ∈ oj.after, Region.binds md e = true → e.on ≠ i := by
        intro e he hb heq
        have h1 := hall e he hb
        rw [heq] at h1
        by_cases hsz : i < listed.size
        · simp [hsz] at hunl h1
          rw [hunl] at h1
          cases h1
        · simp [Array.getElem?_eq_none (Nat.le_of_not_lt hsz)] at h1
      have hjL : j ≠ L := by
        intro e
        subst e
        simp only [waitsFor, hoj] at hL
        obtain ⟨e, he, hb⟩ := Array.any_eq_true'.1 hL
        simp only [Bool.and_eq_true, beq_iff_eq] at hb
        exact hno e he hb.1 hb.2
      have step := wpOp_putIf hoj (hfree j oj hoj hne hju hno) (fun cs b => hsel i oi cs b hi) (fun cs b => hsel j oj cs b hoj) hQ hy (H.2 j (ready_mono hj hne))
      refine wpOp_mono (fun a' w' k => ?_) step
      obtain ⟨k1, k2, k3⟩ := k
      rcases k2 with k2 | k2
      · exact absurd k2 hjL
      · refine ⟨.inr k2, ih (listed.setIfInBounds j true) a' w' ?_ (ready_mono hr (fun e => hne e.symm)) k1 k2 ?_⟩
        · intro q oq hq hqi hun hnq
          refine hfree q oq hq hqi ?_ hnq
          by_cases hjq : j = q
          · subst hjq; exact hju
          · rw [getD_set_ne true hjq] at hun; exact hun
        · rw [Array.setIfInBounds_comm _ _ hne]
          exact k3
    · subst heq
      exact hy.wpOp hi hS ⟨.inr hS, H⟩

/-- Number i, which only reads what S tells, is taken first. -/
theorem anyK_take {i : Nat} {oi : Oper} {v : Value} {n : Nat} {listed : Array Bool} {a : Act} {w : World} (hi : ops[i]? = some oi) (hs : Region.noSelect ops = true) (hf : Region.free md ops listed i = true) (hr : (Region.ready md ops listed).contains i = true) (hL : waitsFor md ops L i = true)
    (hQ : ∀ c a w, Q (.panic c) (a.put oi.dst v) w → Q (.panic c) a w) (hw : Region.wanted oi (yielded ops a.tmps) = true) (hS : S w) (hy : ∀ w, S w → (execOp a.eval oi).run P w = .ok (.value v) w) (d : Option Tmp) (hd : oi.dst = d)
    (h : anyK P md ops Q S L n (listed.setIfInBounds i true) (a.put d v) w) : anyK P md ops Q S L (n + 1) listed a w :=
  anyK_first hi (Region.noSelect_spec hs) hQ hL n listed a w (Region.free_spec hi hf) (by simpa using hr) (.inl ⟨hw, hy⟩) hS (by rw [hd]; exact h)

/-- Number i alone may come up: behind it S is shown anew. -/
theorem anyK_step {i : Nat} {o : Oper} {n : Nat} {listed : Array Bool} {a : Act} {w : World} (hr : Region.ready md ops listed = [i]) (ho : ops[i]? = some o)
    (h : ∀ K : Act → World → Prop, Shut (∀ a w, S w → (S w → anyK P md ops Q S L n (listed.setIfInBounds i true) a w) → K a w) → if Region.wanted o (yielded ops a.tmps) = true then Oper.wp P o a w K Q else K (a.put o.dst undef) w) : anyK P md ops Q S L (n + 1) listed a w := by
  refine ⟨fun e => absurd e (by rw [hr]; simp), fun j hj => ?_⟩
  rw [hr] at hj
  obtain rfl := List.mem_singleton.1 hj
  exact wpOp_step ho (fun K hK => h K (fun a w hS hW => hK a w ⟨.inr hS, hW hS⟩))

/-- L alone may come up. -/
theorem anyK_last {o : Oper} {n : Nat} {listed : Array Bool} {a : Act} {w : World} (hr : Region.ready md ops listed = [L]) (ho : ops[L]? = some o)
    (h : ∀ K : Act → World → Prop, Shut (∀ a w, anyK P md ops Q S L n (listed.setIfInBounds L true) a w → K a w) → if Region.wanted o (yielded ops a.tmps) = true then Oper.wp P o a w K Q else K (a.put o.dst undef) w) : anyK P md ops Q S L (n + 1) listed a w := by
  refine ⟨fun e => absurd e (by rw [hr]; simp), fun j hj => ?_⟩
  rw [hr] at hj
  obtain rfl := List.mem_singleton.1 hj
  exact wpOp_step ho (fun K hK => h K (fun a w hW => hK a w ⟨.inl rfl, hW⟩))

theorem anyK_done {listed : Array Bool} {a : Act} {w : World} (hr : Region.ready md ops listed = []) (h : Q .normal a w) : ∀ n, anyK P md ops Q S L n listed a w
  | 0 => ⟨hr, h⟩
  | _ + 1 => ⟨fun _ => h, by rw [hr]; simp⟩

/-- The beginning. -/
theorem region_K {id : Nat} {a : Act} {w : World} (L : Nat) (S : World → Prop) (hm : P.follows .mixedOrders = true) (hS : S w.drew)
    (h : S w.drew → anyK P .any ops Q S L ops.size (Array.replicate ops.size false) a w.drew) : (Code.region id ops true).wp P Q a w :=
  wp_region_any hm (anyK_any _ _ _ _ (h hS))
end
end Go.Proofs.Ytlapfmfaammheaa
/- The contract of the draw of an item that may be spoilt. For codes of at most 2^21 bytes. -/




namespace Go.Proofs.Ytlapfmfaammheaa
open Go.RowKit

theorem own_form2 {w : World} {B : Nat} {v : Value} {m : Nat} {xs : List Value} (o : w.ownsRow B 5 1 v m xs) : ∃ a c, v = .slice a m c := by
  rcases o.2 with ⟨h1, h2⟩ | ⟨g', cap', cur, h1, _⟩
  · exact ⟨none, 0, by rw [h1, h2]⟩
  · exact ⟨_, _, h1⟩
theorem bdapp {A B : List Int} (ha : ∀ i, 0 ≤ A.getD i 0 ∧ A.getD i 0 ≤ 255) (hb : ∀ i, 0 ≤ B.getD i 0 ∧ B.getD i 0 ≤ 255) : ∀ i, 0 ≤ (A ++ B).getD i 0 ∧ (A ++ B).getD i 0 ≤ 255 := by
  intro i
  by_cases h : i < A.length
  · have := ha i
    rwa [List.getD_eq_getElem?_getD, List.getElem?_append_left h, ← List.getD_eq_getElem?_getD]
  · have := hb (i - A.length)
    rwa [List.getD_eq_getElem?_getD, List.getElem?_append_right (by omega), ← List.getD_eq_getElem?_getD]
theorem wrap_rng (n : Int) : -9223372036854775808 ≤ IntKind.i64.wrap n ∧ IntKind.i64.wrap n ≤ 9223372036854775807 := by
  rw [IntKind.wrap_i64]; omega
/-- nil is appended, in a region that draws its order. -/
theorem step_append_none {P : Program} {w : World} {ops : Array Oper} {o : Oper} {a : Act} {K : Act → World → Prop} {Q : Exit → Act → World → Prop} {E : Prop} (hgd : o.guard = none) (s x : Operand) (t : TypeId)
    (ho : o.op = .call { callee := .builtin .append, args := #[s, x], argTypes := #[t, t] })
    (base : Nat) (e : TypeId) (i : TypeInfo) (size : Nat) (ht : P.underlying t = some (.slice e)) (hi : P.info? e = some i)
    (v : Value) (n : Nat) (xs : List Value) (hs : a.eval s = v) (hown : w.ownsRow base e size v n xs) (hx : a.eval x = .slice none 0 0)
    (h : K (a.put o.dst v) w) : if Region.wanted o (yielded ops a.tmps) = true then Oper.wp P o a w K Q else E := by
  rw [if_pos (by simp [Region.wanted, hgd])]
  have hrun := run_append_owned_none (P := P) (w := w) base t o.type e i size ht hi v n xs hown
  unfold Oper.wp
  simp [execOp, ho, resolve, invoke, builtin, hs, hx, hrun, Result.andThen]
  exact h

set_option maxRecDepth 100000 in
set_option maxHeartbeats 12800000 in
theorem l3any {w : World} {g : Nat} {ad : Option Addr} {n cap : Nat} {zs : List Int} (c : Cur w g ad n cap zs) (hn : n ≤ 2097152) :
    Calls Try.prog 40 #[.pointer (some ⟨g, 0, none⟩)] w fun e w' => AnsI 3000 w g ad n cap zs e w' := by
  have hgl := c.lt
  go_enter Try.func40, Try.ntmps40
  go_wp2_with fail
  have c0 := c.alloc (.cells #[.int .i64 0, .int .i64 0, .float .f64 0, .slice none 0 0] 26)
  have G0 := hid (show w.grownBy (w.alloc (.cells #[.int .i64 0, .int .i64 0, .float .f64 0, .slice none 0 0] 26)) none from World.grownBy_alloc w _ none)
  have T0 := hid (heap_alloc_new w (.cells #[.int .i64 0, .int .i64 0, .float .f64 0, .slice none 0 0] 26))
  have Z0 := hid (show (w.alloc (.cells #[.int .i64 0, .int .i64 0, .float .f64 0, .slice none 0 0] 26)).heap.size = w.heap.size + 1 by simp)
  generalize w.alloc (.cells #[.int .i64 0, .int .i64 0, .float .f64 0, .slice none 0 0] 26) = U at *
  generalize hq0 : w.heap.size = q0 at *
  have HQ := hid hq0
  have hgu : g < U.heap.size := by have := Z0.out; omega
  clear c hq0
  refine (l3value c0 hn).mono ?_
  rintro e w1 ⟨K, N, f, v, D, rfl, o1, bd1, hD, hN, hf, c1, g1⟩
  obtain ⟨av, cv, rfl⟩ := own_form2 o1
  have B0 := hid (Bi.start (K := 0) (N := 0) (f := 0) (v := .slice none 0 0) (D := []) hgu g1 c1 (World.ownsRow_nil _ _ _ _) (by simp))
  have TB0 := hid B0.out.box
  have B1 := hid (B0.out.row (K' := K) (N' := N) (f' := f) (o1.alloc (.cells #[.int .i64 0, .int .i64 0, .float .f64 0, .slice none 0 0] 26)) bd1)
  clear c0 c1 g1 o1 bd1 B0
  go_wp2_with (refine wpList_store_row rfl 26 (.tmp 3) _ rfl w1.heap.size #[.int .i64 K, .int .i64 N, .float .f64 f, .slice av D.length cv] rfl rfl 26 _ TB0.out ?y1 ?y2 ?y3 ?_)
  case y1 => simpa using sizeIt
  try case y2 => rfl
  case y3 => simp [Value.oneCell']
  generalize (w1.alloc (.cells #[.int .i64 0, .int .i64 0, .float .f64 0, .slice none 0 0] 26)).setRow w1.heap.size #[.int .i64 K, .int .i64 N, .float .f64 f, .slice av D.length cv] = V at *
  clear TB0
  generalize w1.heap.size = p at *
  refine (l1Once B1.out.cur hn 2 (by omega) (by omega)).mono ?_
  rintro e w2 ⟨q, rfl, c2, g2⟩
  have B2 := hid (B1.out.cursor c2 g2)
  clear c2 g2 B1
  cases q
  · go_wp2_with fail
    refine (l1Below B2.out.cur hn 14 (by omega) (by omega)).mono ?_
    rintro e w5 ⟨t, rfl, ht0, ht1, c5, g5⟩
    have B5 := hid (B2.out.cursor c5 g5)
    clear c5 g5 B2
    by_cases t0 : t = 0
    · subst t0
      go_wp2_with fail
      refine (l1Below B5.out.cur hn 7 (by omega) (by omega)).mono ?_
      rintro e w6 ⟨y, rfl, hy0, hy1, c6, g6⟩
      have B6 := hid (B5.out.cursor c6 g6)
      clear c6 g6 B5
      obtain ⟨z0, z1, z2, z3⟩ : Box w6 p K N f av D.length cv := B6.out.cells
      have zf := B6.out.froz 0
      have B7 := hid (B6.out.setK (y - 1))
      clear B6
      have FA := finI (M := 3000) G0.out HQ.out Z0.out T0.out hgl B7.out.gr B7.out.cur B7.out.own B7.out.bd (by omega) hN hf (K := (y - 1)) (N := N) (f := f)
      have TQ := hid FA.1
      have AN := hid FA.2
      have TP := hid B7.out.box
      clear FA
      go_wp2_with (first
        | (refine wpList_load_row rfl 26 _ rfl p rfl 26 _ (0, 0) _ TP.out Try.underlying26 rfl sizeIt ?_)
        | (refine wpList_store_row rfl 26 (.tmp 2) _ rfl q0 #[.int .i64 (y - 1), .int .i64 N, .float .f64 f, (.slice av D.length cv)] rfl rfl 26 _ TQ.out ?s1x1 ?s2x1 ?s3x1 ?_))
      case s1x1 => simpa using sizeIt
      try case s2x1 => rfl
      case s3x1 => simp [Value.oneCell']
      refine bodyPost_ret (results_cell_row Try.results40 _ _ q0 26 #[.int .i64 (y - 1), .int .i64 N, .float .f64 f, (.slice av D.length cv)] (0, 0) _ rfl (setRow_heap _ _ _ _ _ _ TQ.out) Try.underlying26 rfl sizeIt) rfl ?_
      exact AN.out
    by_cases t1 : t = 1
    · subst t1
      obtain ⟨z0, z1, z2, z3⟩ : Box w5 p K N f av D.length cv := B5.out.cells
      have zf := B5.out.froz 1
      have B7 := hid (B5.out.setN (wrap64 (N + 1)))
      clear B5
      have hw : -9223372036854775808 ≤ wrap64 (N + 1) ∧ wrap64 (N + 1) ≤ 9223372036854775807 := by unfold wrap64; omega
      have HWR := hid hw
      clear hw
      have FA := finI (M := 3000) G0.out HQ.out Z0.out T0.out hgl B7.out.gr B7.out.cur B7.out.own B7.out.bd (by omega) HWR.out hf (K := K) (N := (wrap64 (N + 1))) (f := f)
      have TQ := hid FA.1
      have AN := hid FA.2
      have TP := hid B7.out.box
      clear FA
      go_wp2_with (first
        | (refine wpList_load_row rfl 26 _ rfl p rfl 26 _ (0, 0) _ TP.out Try.underlying26 rfl sizeIt ?_)
        | (refine wpList_store_row rfl 26 (.tmp 2) _ rfl q0 #[.int .i64 K, .int .i64 (wrap64 (N + 1)), .float .f64 f, (.slice av D.length cv)] rfl rfl 26 _ TQ.out ?s1x2 ?s2x2 ?s3x2 ?_))
      case s1x2 => simpa using sizeIt
      try case s2x2 => rfl
      case s3x2 => simp [Value.oneCell']
      refine bodyPost_ret (results_cell_row Try.results40 _ _ q0 26 #[.int .i64 K, .int .i64 (wrap64 (N + 1)), .float .f64 f, (.slice av D.length cv)] (0, 0) _ rfl (setRow_heap _ _ _ _ _ _ TQ.out) Try.underlying26 rfl sizeIt) rfl ?_
      exact AN.out
    by_cases t2 : t = 2
    · subst t2
      go_wp2_with fail
      refine (l2float B5.out.cur hn).mono ?_
      rintro e w6 ⟨z, rfl, hz, c6, g6⟩
      have B6 := hid (B5.out.cursor c6 g6)
      clear c6 g6 B5
      obtain ⟨z0, z1, z2, z3⟩ : Box w6 p K N f av D.length cv := B6.out.cells
      have zf := B6.out.froz 2
      have B7 := hid (B6.out.setF z)
      clear B6
      have hst := fun w a m => run_store Try.prog w a (.float .f64 z) m rfl
      have FA := finI (M := 3000) G0.out HQ.out Z0.out T0.out hgl B7.out.gr B7.out.cur B7.out.own B7.out.bd (by omega) hN hz (K := K) (N := N) (f := z)
      have TQ := hid FA.1
      have AN := hid FA.2
      have TP := hid B7.out.box
      clear FA
      go_wp2_with (first
        | (refine wpList_load_row rfl 26 _ rfl p rfl 26 _ (0, 0) _ TP.out Try.underlying26 rfl sizeIt ?_)
        | (refine wpList_store_row rfl 26 (.tmp 2) _ rfl q0 #[.int .i64 K, .int .i64 N, .float .f64 z, (.slice av D.length cv)] rfl rfl 26 _ TQ.out ?s1x3 ?s2x3 ?s3x3 ?_))
      case s1x3 => simpa using sizeIt
      try case s2x3 => rfl
      case s3x3 => simp [Value.oneCell']
      refine bodyPost_ret (results_cell_row Try.results40 _ _ q0 26 #[.int .i64 K, .int .i64 N, .float .f64 z, (.slice av D.length cv)] (0, 0) _ rfl (setRow_heap _ _ _ _ _ _ TQ.out) Try.underlying26 rfl sizeIt) rfl ?_
      exact AN.out
    by_cases t3 : t = 3
    · subst t3
      have H4 := hid B5.out.drew.c3
      go_wp2_with fail
      obtain ⟨i0, hi, hz0, hz1, hz2⟩ := info_parts Try.info5
      refine region_K 6 (fun X => X.cell? ⟨p, 3, none⟩ = some (.slice av D.length cv)) (by kernel_rfl) ?_ (fun hHeld => ?_)
      · exact H4.out
      refine anyK_take (i := 0) (v := ?v30001) rfl (by kernel_rfl) (by kernel_rfl) (by kernel_rfl) (by kernel_rfl) (fun _ _ _ h => h) (by rfl) hHeld ?hy30001 (some 32) (by rfl) ?rest30001
      case hy30001 => (intro W hSw; (try dsimp only at hSw); go_simp; (try with_reducible rfl))
      try simp only [Act.put]
      try simp only [List.setIfInBounds_toArray]
      try simp only [List.set_cons_succ, List.set_cons_zero]
      refine anyK_take (i := 1) (v := ?v30002) rfl (by kernel_rfl) (by kernel_rfl) (by kernel_rfl) (by kernel_rfl) (fun _ _ _ h => h) (by rfl) hHeld ?hy30002 (some 33) (by rfl) ?rest30002
      case hy30002 => (intro W hSw; (try dsimp only at hSw); go_simp; (try with_reducible rfl))
      try simp only [Act.put]
      try simp only [List.setIfInBounds_toArray]
      try simp only [List.set_cons_succ, List.set_cons_zero]
      refine anyK_take (i := 2) (v := ?v30003) rfl (by kernel_rfl) (by kernel_rfl) (by kernel_rfl) (by kernel_rfl) (fun _ _ _ h => h) (by rfl) hHeld ?hy30003 (some 34) (by rfl) ?rest30003
      case hy30003 => (intro W hSw; (try dsimp only at hSw); go_simp; (try with_reducible rfl))
      try simp only [Act.put]
      try simp only [List.setIfInBounds_toArray]
      try simp only [List.set_cons_succ, List.set_cons_zero]
      refine anyK_step (i := 3) (by kernel_rfl) rfl (fun K hK => ?_)
      go_simp
      refine (l1some2 B5.out.drew.cur hn 3 (by omega) (by omega)).mono ?_
      rintro e w6 ⟨sv, SL, rfl, o8, bd8, hSL, hnl, cc, gg⟩
      have B6 := hid (B5.out.drew.cursor cc gg)
      have S8 := hid o8
      have HNL := hid hnl
      have BD8 := hid bd8
      clear cc gg o8 hnl bd8 B5
      go_wp2_with fail
      refine hK.out _ _ ?_ (fun hH2 => ?_)
      · exact B6.out.c3
      clear hK K hHeld
      have hHeld := hH2
      clear hH2
      try simp only [Act.put]
      try simp only [List.setIfInBounds_toArray]
      try simp only [List.set_cons_succ, List.set_cons_zero]
      by_cases hs0 : SL.length = 0
      · obtain rfl := HNL.out hs0
        refine anyK_step (i := 4) (by kernel_rfl) rfl (fun K hK => ?_)
        refine step_append_none (by rfl) _ _ _ (by rfl) U.heap.size 5 i0 1 Try.underlying22 hi (.slice av D.length cv) D.length (bys D) (by rfl) B6.out.own (by rfl) ?_
        have z5 := B6.out.c3
        have zf := B6.out.froz 3
        have B7 := hid (B6.out.setV B6.out.own B6.out.bd)
        refine hK.out _ _ ?_ (fun hH2 => ?_)
        · exact z5
        clear hK K hHeld
        have hHeld := hH2
        clear hH2
        try simp only [Act.put]
        try simp only [List.setIfInBounds_toArray]
        try simp only [List.set_cons_succ, List.set_cons_zero]
        refine anyK_step (i := 5) (by kernel_rfl) rfl (fun K hK => ?_)
        go_simp
        refine hK.out _ _ ?_ (fun hH2 => ?_)
        · exact z5
        clear hK K hHeld
        have hHeld := hH2
        clear hH2
        try simp only [Act.put]
        try simp only [List.setIfInBounds_toArray]
        try simp only [List.set_cons_succ, List.set_cons_zero]
        refine anyK_last (by kernel_rfl) rfl (fun K hK => ?_)
        go_simp
        refine hK.out _ _ ?_
        clear hK K hHeld
        refine anyK_done (by kernel_rfl) ?_ _
        clear z5 zf
        clear hi hz0 hz1 hz2 B6
        have FA := finI (M := 3000) G0.out HQ.out Z0.out T0.out hgl B7.out.gr B7.out.cur B7.out.own B7.out.bd (by omega) hN hf (K := K) (N := N) (f := f)
        have TQ := hid FA.1
        have AN := hid FA.2
        have TP := hid B7.out.box
        clear FA
        go_wp2_with (first
          | (refine wpList_load_row rfl 26 _ rfl p rfl 26 _ (0, 0) _ TP.out Try.underlying26 rfl sizeIt ?_)
          | (refine wpList_store_row rfl 26 (.tmp 2) _ rfl q0 #[.int .i64 K, .int .i64 N, .float .f64 f, (.slice av D.length cv)] rfl rfl 26 _ TQ.out ?s1x4 ?s2x4 ?s3x4 ?_))
        case s1x4 => simpa using sizeIt
        try case s2x4 => rfl
        case s3x4 => simp [Value.oneCell']
        refine bodyPost_ret (results_cell_row Try.results40 _ _ q0 26 #[.int .i64 K, .int .i64 N, .float .f64 f, (.slice av D.length cv)] (0, 0) _ rfl (setRow_heap _ _ _ _ _ _ TQ.out) Try.underlying26 rfl sizeIt) rfl ?_
        exact AN.out
      · obtain ⟨sb, so, sc, rfl⟩ : ∃ b o c, sv = .slice (some ⟨b, o, none⟩) SL.length c := by
          obtain ⟨x1, x2, e, r1, -⟩ := Reads.own S8.out BD8.out
          obtain ⟨b, o, rfl⟩ := r1.pos (by omega)
          exact ⟨b, o, x2, e⟩
        have RS8 := hid (show Reads w6 (some ⟨sb, so, none⟩) SL.length SL by obtain ⟨x1, x2, e, r1, -⟩ := Reads.own S8.out BD8.out; obtain ⟨rfl, -, -⟩ := Value.slice.inj e; exact r1)
        have hUz := B6.out.gr.size
        refine anyK_step (i := 4) (by kernel_rfl) rfl (fun K hK => ?_)
        refine step_append_lies _ (by rfl) _ _ _ (by rfl) U.heap.size 5 i0 (.int .u8 0) 1 1 Try.underlying22 hi hz0 hz1 hz2 rfl (by omega) (.slice av D.length cv) D.length (bys D) (by rfl) B6.out.own ⟨sb, so, none⟩ SL.length sc (bys SL) (by rfl) (by rw [bys_length]; omega) RS8.out.news (bys_one _) (by omega) (by unfold maxLen; omega) (by omega) hUz _ rfl ?_
        intro vg vc w9 o9 g9 hat _
        have T9 := (B6.out.grow g9).1
        have z5 : w9.cell? ⟨p, 3, none⟩ = some (.slice av D.length cv) := by rw [cell_of_row _ _ _ _ _ _ T9]; rfl
        have zf : w9.frozen? ⟨p, 3, none⟩ = false := frozen_of_row _ _ _ _ _ T9
        have B7 := hid (B6.out.app (D' := D ++ SL) g9 (by rw [List.length_append, bys_append]; exact o9) (bdapp B6.out.bd BD8.out))
        clear o9 g9 hat T9
        refine hK.out _ _ ?_ (fun hH2 => ?_)
        · exact z5
        clear hK K hHeld
        have hHeld := hH2
        clear hH2
        try simp only [Act.put]
        try simp only [List.setIfInBounds_toArray]
        try simp only [List.set_cons_succ, List.set_cons_zero]
        refine anyK_step (i := 5) (by kernel_rfl) rfl (fun K hK => ?_)
        go_simp
        refine hK.out _ _ ?_ (fun hH2 => ?_)
        · exact z5
        clear hK K hHeld
        have hHeld := hH2
        clear hH2
        try simp only [Act.put]
        try simp only [List.setIfInBounds_toArray]
        try simp only [List.set_cons_succ, List.set_cons_zero]
        refine anyK_last (by kernel_rfl) rfl (fun K hK => ?_)
        go_simp
        refine hK.out _ _ ?_
        clear hK K hHeld
        refine anyK_done (by kernel_rfl) ?_ _
        clear z5 zf
        clear hi hz0 hz1 hz2 B6
        have FA := finI (M := 3000) G0.out HQ.out Z0.out T0.out hgl B7.out.gr B7.out.cur B7.out.own B7.out.bd (by rw [List.length_append]; omega) hN hf (K := K) (N := N) (f := f)
        have TQ := hid FA.1
        have AN := hid FA.2
        have TP := hid B7.out.box
        clear FA
        go_wp2_with (first
          | (refine wpList_load_row rfl 26 _ rfl p rfl 26 _ (0, 0) _ TP.out Try.underlying26 rfl sizeIt ?_)
          | (refine wpList_store_row rfl 26 (.tmp 2) _ rfl q0 #[.int .i64 K, .int .i64 N, .float .f64 f, (.slice (some ⟨vg, 0, none⟩) (D.length + SL.length) vc)] rfl rfl 26 _ TQ.out ?s1x5 ?s2x5 ?s3x5 ?_))
        case s1x5 => simpa using sizeIt
        try case s2x5 => rfl
        case s3x5 => simp [Value.oneCell']
        refine bodyPost_ret (results_cell_row Try.results40 _ _ q0 26 #[.int .i64 K, .int .i64 N, .float .f64 f, (.slice (some ⟨vg, 0, none⟩) (D.length + SL.length) vc)] (0, 0) _ rfl (setRow_heap _ _ _ _ _ _ TQ.out) Try.underlying26 rfl sizeIt) rfl ?_
        exact AN.out
    by_cases t4 : t = 4
    · subst t4
      obtain ⟨i0, hi, hz0, hz1, hz2⟩ := info_parts Try.info5
      go_wp2_with fail
      go_loopw [] (fun wr => ∃ (D2 : List Int) (a2 : Option Addr) (c2 : Nat), D2.length ≤ 1100 ∧ Hid (Bi U g p ad n cap zs wr K N f (.slice a2 D2.length c2) D2)) (fun wr => 2000 - lenOf ((wr.cell? ⟨p, 3, none⟩).getD undef))
      case atStart => exact ⟨D, av, cv, by omega, B5⟩
      case round =>
        obtain ⟨D2, a2, c2, hD2, hB⟩ := hrel
        clear B5
        have Y1 := hid hB.out.c3
        have y1d := hB.out.drew.c3
        go_wp2_with fail
        go_region_held3 (fun X => X.cell? ⟨p, 3, none⟩ = some (.slice a2 D2.length c2)) (first | exact z1 | exact y1d)
          (first
          | (go_at_call_of 41 (Value.int IntKind.i64 2); refine (l1Below hB.out.drew.cur hn 2 (by omega) (by omega)).mono ?_; rintro e w6 ⟨y, rfl, hy0, hy1, cc, gg⟩; have B6 := hid (hB.out.drew.cursor cc gg); have z1 := B6.out.c3))
        clear cc gg z1 y1d
        rw [show IntKind.i64.wrap (40 + y) = 40 + y by rw [IntKind.wrap_i64]; omega]
        by_cases hco : (D2.length : Int) < 40 + y
        · have B7 := hid (B6.out.alloc (.cells #[.int .u8 120] 5))
          have hUz := B7.out.gr.size
          have y5 := B6.out.c3
          have x5 := B7.out.c3
          clear hB
          go_wp2_with (at_builtin; refine wpList_append_lies _ rfl _ _ 22 rfl U.heap.size 5 i0 (.int .u8 0) 1 1 Try.underlying22 hi hz0 hz1 hz2 rfl (by omega) (.slice a2 D2.length c2) D2.length (bys D2) rfl B7.out.own ⟨w6.heap.size, 0, none⟩ 1 1 [.int .u8 120] rfl rfl (World.news_of_block (heap_alloc_new w6 _)) (by simp [Value.oneCell']) (by omega) (by unfold maxLen; omega) (by omega) hUz _ rfl ?_)
          intro vg vc w9 o9 g9 hat _
          have T9 := (B7.out.grow g9).1
          have z5 : w9.cell? ⟨p, 3, none⟩ = some (.slice a2 D2.length c2) := by rw [cell_of_row _ _ _ _ _ _ T9]; rfl
          have zf : w9.frozen? ⟨p, 3, none⟩ = false := frozen_of_row _ _ _ _ _ T9
          have B8 := hid (B7.out.app (D' := D2 ++ [120]) g9 (by rw [List.length_append, bys_append]; exact o9) (bdapp B7.out.bd (fun i => by rcases i with _ | i <;> simp)))
          clear o9 g9 hat T9 y5 x5 B7 B6
          go_wp2_with fail
          go_roundw
          case rel => exact ⟨D2 ++ [120], some ⟨vg, 0, none⟩, vc, by simp; omega, by rw [List.length_append]; exact B8⟩
          case measure => rw [B8.out.c3, Y1.out]; simp [lenOf]; omega
        · clear hB Y1 hi hz0 hz1 hz2
          have hst0 := fun w a m => run_store Try.prog w a (.float .f64 0) m rfl
          obtain ⟨z0, z1, z2, z3⟩ : Box w6 p K N f a2 D2.length c2 := B6.out.cells
          have zf0 := B6.out.froz 0
          have Bk := hid (B6.out.setK 3)
          obtain ⟨k0, k1, k2, k3⟩ : Box (w6.setCell ⟨p, 0, none⟩ (.int .i64 3)) p 3 N f a2 D2.length c2 := Bk.out.cells
          have kf1 := Bk.out.froz 1
          have Bn := hid (Bk.out.setN 0)
          obtain ⟨n0, n1, n2, n3⟩ : Box ((w6.setCell ⟨p, 0, none⟩ (.int .i64 3)).setCell ⟨p, 1, none⟩ (.int .i64 0)) p 3 0 f a2 D2.length c2 := Bn.out.cells
          have nf2 := Bn.out.froz 2
          have Bf := hid (Bn.out.setF 0)
          clear B6 Bk Bn
          have FA := finI (M := 3000) G0.out HQ.out Z0.out T0.out hgl Bf.out.gr Bf.out.cur Bf.out.own Bf.out.bd (by omega) (by omega) (by omega) (K := 3) (N := 0) (f := 0)
          have TQ := hid FA.1
          have AN := hid FA.2
          have TP := hid Bf.out.box
          clear FA
          go_wp2_with (first
            | (refine wpList_load_row rfl 26 _ rfl p rfl 26 _ (0, 0) _ TP.out Try.underlying26 rfl sizeIt ?_)
            | (refine wpList_store_row rfl 26 (.tmp 2) _ rfl q0 #[.int .i64 3, .int .i64 0, .float .f64 0, (.slice a2 D2.length c2)] rfl rfl 26 _ TQ.out ?s1x6 ?s2x6 ?s3x6 ?_))
          case s1x6 => simpa using sizeIt
          try case s2x6 => rfl
          case s3x6 => simp [Value.oneCell']
          refine bodyPost_ret (results_cell_row Try.results40 _ _ q0 26 #[.int .i64 3, .int .i64 0, .float .f64 0, (.slice a2 D2.length c2)] (0, 0) _ rfl (setRow_heap _ _ _ _ _ _ TQ.out) Try.underlying26 rfl sizeIt) rfl ?_
          exact AN.out
    by_cases t5 : t = 5
    · subst t5
      have B7 := hid (B5.out.row (K' := 2) (N' := 0) (f' := 9223372036854775808) (v' := .slice none 0 0) (D' := []) (World.ownsRow_nil _ _ _ _) (by simp))
      have TB := hid B5.out.box
      clear B5
      have hng := fun w => neg_run 0 9223372036854775808 (by decide) w
      have FA := finI (M := 3000) G0.out HQ.out Z0.out T0.out hgl B7.out.gr B7.out.cur B7.out.own B7.out.bd (by simp) (by omega) (by omega) (K := 2) (N := 0) (f := 9223372036854775808)
      have TQ := hid FA.1
      have AN := hid FA.2
      have TP := hid B7.out.box
      clear FA
      go_wp2_with (first
        | (refine wpList_store_row rfl 26 (.tmp 3) _ rfl p #[.int .i64 2, .int .i64 0, .float .f64 9223372036854775808, .slice none 0 0] rfl rfl 26 _ TB.out ?r1z1 ?r2z1 ?r3z1 ?_)
        | (refine wpList_load_row rfl 26 _ rfl p rfl 26 _ (0, 0) _ TP.out Try.underlying26 rfl sizeIt ?_)
        | (refine wpList_store_row rfl 26 (.tmp 2) _ rfl q0 #[.int .i64 2, .int .i64 0, .float .f64 9223372036854775808, (.slice none 0 0)] rfl rfl 26 _ TQ.out ?s1x7 ?s2x7 ?s3x7 ?_))
      case r1z1 => simpa using sizeIt
      try case r2z1 => rfl
      case r3z1 => simp [Value.oneCell']
      case s1x7 => simpa using sizeIt
      try case s2x7 => rfl
      case s3x7 => simp [Value.oneCell']
      refine bodyPost_ret (results_cell_row Try.results40 _ _ q0 26 #[.int .i64 2, .int .i64 0, .float .f64 9223372036854775808, (.slice none 0 0)] (0, 0) _ rfl (setRow_heap _ _ _ _ _ _ TQ.out) Try.underlying26 rfl sizeIt) rfl ?_
      exact AN.out
    have FA := finI (M := 3000) G0.out HQ.out Z0.out T0.out hgl B5.out.gr B5.out.cur B5.out.own B5.out.bd (by omega) hN hf (K := K) (N := N) (f := f)
    have TQ := hid FA.1
    have AN := hid FA.2
    have TP := hid B5.out.box
    clear FA
    go_wp2_with (first
      | (refine wpList_load_row rfl 26 _ rfl p rfl 26 _ (0, 0) _ TP.out Try.underlying26 rfl sizeIt ?_)
      | (refine wpList_store_row rfl 26 (.tmp 2) _ rfl q0 #[.int .i64 K, .int .i64 N, .float .f64 f, (.slice av D.length cv)] rfl rfl 26 _ TQ.out ?s1x8 ?s2x8 ?s3x8 ?_))
    case s1x8 => simpa using sizeIt
    try case s2x8 => rfl
    case s3x8 => simp [Value.oneCell']
    refine bodyPost_ret (results_cell_row Try.results40 _ _ q0 26 #[.int .i64 K, .int .i64 N, .float .f64 f, (.slice av D.length cv)] (0, 0) _ rfl (setRow_heap _ _ _ _ _ _ TQ.out) Try.underlying26 rfl sizeIt) rfl ?_
    exact AN.out
  · go_wp2_with fail
    refine (l3key B2.out.cur hn).mono ?_
    rintro e w3 ⟨K3, N3, f3, v3, D3, rfl, o3, bd3, hD3, hN3, hf3, c3, g3⟩
    obtain ⟨a3, q3, rfl⟩ := own_form2 o3
    have B3 := hid (B2.out.cursor c3 g3)
    have TB3 := hid B3.out.box
    have B4 := hid (B3.out.row (K' := K3) (N' := N3) (f' := f3) (owns_lower o3 B2.out.gr.size) bd3)
    clear o3 bd3 c3 g3 B3 B2 hD hN hf
    go_wp2_with (refine wpList_store_row rfl 26 (.tmp 3) _ rfl p #[.int .i64 K3, .int .i64 N3, .float .f64 f3, .slice a3 D3.length q3] rfl rfl 26 _ TB3.out ?x1 ?x2 ?x3 ?_)
    case x1 => simpa using sizeIt
    try case x2 => rfl
    case x3 => simp [Value.oneCell']
    clear TB3
    generalize w3.setRow p #[.int .i64 K3, .int .i64 N3, .float .f64 f3, .slice a3 D3.length q3] = w4 at *
    refine (l1Below B4.out.cur hn 14 (by omega) (by omega)).mono ?_
    rintro e w5 ⟨t, rfl, ht0, ht1, c5, g5⟩
    have B5 := hid (B4.out.cursor c5 g5)
    clear c5 g5 B4
    by_cases t0 : t = 0
    · subst t0
      go_wp2_with fail
      refine (l1Below B5.out.cur hn 7 (by omega) (by omega)).mono ?_
      rintro e w6 ⟨y, rfl, hy0, hy1, c6, g6⟩
      have B6 := hid (B5.out.cursor c6 g6)
      clear c6 g6 B5
      obtain ⟨z0, z1, z2, z3⟩ : Box w6 p K3 N3 f3 a3 D3.length q3 := B6.out.cells
      have zf := B6.out.froz 0
      have B7 := hid (B6.out.setK (y - 1))
      clear B6
      have FA := finI (M := 3000) G0.out HQ.out Z0.out T0.out hgl B7.out.gr B7.out.cur B7.out.own B7.out.bd (by omega) hN3 hf3 (K := (y - 1)) (N := N3) (f := f3)
      have TQ := hid FA.1
      have AN := hid FA.2
      have TP := hid B7.out.box
      clear FA
      go_wp2_with (first
        | (refine wpList_load_row rfl 26 _ rfl p rfl 26 _ (0, 0) _ TP.out Try.underlying26 rfl sizeIt ?_)
        | (refine wpList_store_row rfl 26 (.tmp 2) _ rfl q0 #[.int .i64 (y - 1), .int .i64 N3, .float .f64 f3, (.slice a3 D3.length q3)] rfl rfl 26 _ TQ.out ?s1x9 ?s2x9 ?s3x9 ?_))
      case s1x9 => simpa using sizeIt
      try case s2x9 => rfl
      case s3x9 => simp [Value.oneCell']
      refine bodyPost_ret (results_cell_row Try.results40 _ _ q0 26 #[.int .i64 (y - 1), .int .i64 N3, .float .f64 f3, (.slice a3 D3.length q3)] (0, 0) _ rfl (setRow_heap _ _ _ _ _ _ TQ.out) Try.underlying26 rfl sizeIt) rfl ?_
      exact AN.out
    by_cases t1 : t = 1
    · subst t1
      obtain ⟨z0, z1, z2, z3⟩ : Box w5 p K3 N3 f3 a3 D3.length q3 := B5.out.cells
      have zf := B5.out.froz 1
      have B7 := hid (B5.out.setN (wrap64 (N3 + 1)))
      clear B5
      have hw : -9223372036854775808 ≤ wrap64 (N3 + 1) ∧ wrap64 (N3 + 1) ≤ 9223372036854775807 := by unfold wrap64; omega
      have HWR := hid hw
      clear hw
      have FA := finI (M := 3000) G0.out HQ.out Z0.out T0.out hgl B7.out.gr B7.out.cur B7.out.own B7.out.bd (by omega) HWR.out hf3 (K := K3) (N := (wrap64 (N3 + 1))) (f := f3)
      have TQ := hid FA.1
      have AN := hid FA.2
      have TP := hid B7.out.box
      clear FA
      go_wp2_with (first
        | (refine wpList_load_row rfl 26 _ rfl p rfl 26 _ (0, 0) _ TP.out Try.underlying26 rfl sizeIt ?_)
        | (refine wpList_store_row rfl 26 (.tmp 2) _ rfl q0 #[.int .i64 K3, .int .i64 (wrap64 (N3 + 1)), .float .f64 f3, (.slice a3 D3.length q3)] rfl rfl 26 _ TQ.out ?s1x10 ?s2x10 ?s3x10 ?_))
      case s1x10 => simpa using sizeIt
      try case s2x10 => rfl
      case s3x10 => simp [Value.oneCell']
      refine bodyPost_ret (results_cell_row Try.results40 _ _ q0 26 #[.int .i64 K3, .int .i64 (wrap64 (N3 + 1)), .float .f64 f3, (.slice a3 D3.length q3)] (0, 0) _ rfl (setRow_heap _ _ _ _ _ _ TQ.out) Try.underlying26 rfl sizeIt) rfl ?_
      exact AN.out
    by_cases t2 : t = 2
    · subst t2
      go_wp2_with fail
      refine (l2float B5.out.cur hn).mono ?_
      rintro e w6 ⟨z, rfl, hz, c6, g6⟩
      have B6 := hid (B5.out.cursor c6 g6)
      clear c6 g6 B5
      obtain ⟨z0, z1, z2, z3⟩ : Box w6 p K3 N3 f3 a3 D3.length q3 := B6.out.cells
      have zf := B6.out.froz 2
      have B7 := hid (B6.out.setF z)
      clear B6
      have hst := fun w a m => run_store Try.prog w a (.float .f64 z) m rfl
      have FA := finI (M := 3000) G0.out HQ.out Z0.out T0.out hgl B7.out.gr B7.out.cur B7.out.own B7.out.bd (by omega) hN3 hz (K := K3) (N := N3) (f := z)
      have TQ := hid FA.1
      have AN := hid FA.2
      have TP := hid B7.out.box
      clear FA
      go_wp2_with (first
        | (refine wpList_load_row rfl 26 _ rfl p rfl 26 _ (0, 0) _ TP.out Try.underlying26 rfl sizeIt ?_)
        | (refine wpList_store_row rfl 26 (.tmp 2) _ rfl q0 #[.int .i64 K3, .int .i64 N3, .float .f64 z, (.slice a3 D3.length q3)] rfl rfl 26 _ TQ.out ?s1x11 ?s2x11 ?s3x11 ?_))
      case s1x11 => simpa using sizeIt
      try case s2x11 => rfl
      case s3x11 => simp [Value.oneCell']
      refine bodyPost_ret (results_cell_row Try.results40 _ _ q0 26 #[.int .i64 K3, .int .i64 N3, .float .f64 z, (.slice a3 D3.length q3)] (0, 0) _ rfl (setRow_heap _ _ _ _ _ _ TQ.out) Try.underlying26 rfl sizeIt) rfl ?_
      exact AN.out
    by_cases t3 : t = 3
    · subst t3
      have H4 := hid B5.out.drew.c3
      go_wp2_with fail
      obtain ⟨i0, hi, hz0, hz1, hz2⟩ := info_parts Try.info5
      refine region_K 6 (fun X => X.cell? ⟨p, 3, none⟩ = some (.slice a3 D3.length q3)) (by kernel_rfl) ?_ (fun hHeld => ?_)
      · exact H4.out
      refine anyK_take (i := 0) (v := ?v30005) rfl (by kernel_rfl) (by kernel_rfl) (by kernel_rfl) (by kernel_rfl) (fun _ _ _ h => h) (by rfl) hHeld ?hy30005 (some 32) (by rfl) ?rest30005
      case hy30005 => (intro W hSw; (try dsimp only at hSw); go_simp; (try with_reducible rfl))
      try simp only [Act.put]
      try simp only [List.setIfInBounds_toArray]
      try simp only [List.set_cons_succ, List.set_cons_zero]
      refine anyK_take (i := 1) (v := ?v30006) rfl (by kernel_rfl) (by kernel_rfl) (by kernel_rfl) (by kernel_rfl) (fun _ _ _ h => h) (by rfl) hHeld ?hy30006 (some 33) (by rfl) ?rest30006
      case hy30006 => (intro W hSw; (try dsimp only at hSw); go_simp; (try with_reducible rfl))
      try simp only [Act.put]
      try simp only [List.setIfInBounds_toArray]
      try simp only [List.set_cons_succ, List.set_cons_zero]
      refine anyK_take (i := 2) (v := ?v30007) rfl (by kernel_rfl) (by kernel_rfl) (by kernel_rfl) (by kernel_rfl) (fun _ _ _ h => h) (by rfl) hHeld ?hy30007 (some 34) (by rfl) ?rest30007
      case hy30007 => (intro W hSw; (try dsimp only at hSw); go_simp; (try with_reducible rfl))
      try simp only [Act.put]
      try simp only [List.setIfInBounds_toArray]
      try simp only [List.set_cons_succ, List.set_cons_zero]
      refine anyK_step (i := 3) (by kernel_rfl) rfl (fun K hK => ?_)
      go_simp
      refine (l1some2 B5.out.drew.cur hn 3 (by omega) (by omega)).mono ?_
      rintro e w6 ⟨sv, SL, rfl, o8, bd8, hSL, hnl, cc, gg⟩
      have B6 := hid (B5.out.drew.cursor cc gg)
      have S8 := hid o8
      have HNL := hid hnl
      have BD8 := hid bd8
      clear cc gg o8 hnl bd8 B5
      go_wp2_with fail
      refine hK.out _ _ ?_ (fun hH2 => ?_)
      · exact B6.out.c3
      clear hK K hHeld
      have hHeld := hH2
      clear hH2
      try simp only [Act.put]
      try simp only [List.setIfInBounds_toArray]
      try simp only [List.set_cons_succ, List.set_cons_zero]
      by_cases hs0 : SL.length = 0
      · obtain rfl := HNL.out hs0
        refine anyK_step (i := 4) (by kernel_rfl) rfl (fun K hK => ?_)
        refine step_append_none (by rfl) _ _ _ (by rfl) U.heap.size 5 i0 1 Try.underlying22 hi (.slice a3 D3.length q3) D3.length (bys D3) (by rfl) B6.out.own (by rfl) ?_
        have z5 := B6.out.c3
        have zf := B6.out.froz 3
        have B7 := hid (B6.out.setV B6.out.own B6.out.bd)
        refine hK.out _ _ ?_ (fun hH2 => ?_)
        · exact z5
        clear hK K hHeld
        have hHeld := hH2
        clear hH2
        try simp only [Act.put]
        try simp only [List.setIfInBounds_toArray]
        try simp only [List.set_cons_succ, List.set_cons_zero]
        refine anyK_step (i := 5) (by kernel_rfl) rfl (fun K hK => ?_)
        go_simp
        refine hK.out _ _ ?_ (fun hH2 => ?_)
        · exact z5
        clear hK K hHeld
        have hHeld := hH2
        clear hH2
        try simp only [Act.put]
        try simp only [List.setIfInBounds_toArray]
        try simp only [List.set_cons_succ, List.set_cons_zero]
        refine anyK_last (by kernel_rfl) rfl (fun K hK => ?_)
        go_simp
        refine hK.out _ _ ?_
        clear hK K hHeld
        refine anyK_done (by kernel_rfl) ?_ _
        clear z5 zf
        clear hi hz0 hz1 hz2 B6
        have FA := finI (M := 3000) G0.out HQ.out Z0.out T0.out hgl B7.out.gr B7.out.cur B7.out.own B7.out.bd (by omega) hN3 hf3 (K := K3) (N := N3) (f := f3)
        have TQ := hid FA.1
        have AN := hid FA.2
        have TP := hid B7.out.box
        clear FA
        go_wp2_with (first
          | (refine wpList_load_row rfl 26 _ rfl p rfl 26 _ (0, 0) _ TP.out Try.underlying26 rfl sizeIt ?_)
          | (refine wpList_store_row rfl 26 (.tmp 2) _ rfl q0 #[.int .i64 K3, .int .i64 N3, .float .f64 f3, (.slice a3 D3.length q3)] rfl rfl 26 _ TQ.out ?s1x12 ?s2x12 ?s3x12 ?_))
        case s1x12 => simpa using sizeIt
        try case s2x12 => rfl
        case s3x12 => simp [Value.oneCell']
        refine bodyPost_ret (results_cell_row Try.results40 _ _ q0 26 #[.int .i64 K3, .int .i64 N3, .float .f64 f3, (.slice a3 D3.length q3)] (0, 0) _ rfl (setRow_heap _ _ _ _ _ _ TQ.out) Try.underlying26 rfl sizeIt) rfl ?_
        exact AN.out
      · obtain ⟨sb, so, sc, rfl⟩ : ∃ b o c, sv = .slice (some ⟨b, o, none⟩) SL.length c := by
          obtain ⟨x1, x2, e, r1, -⟩ := Reads.own S8.out BD8.out
          obtain ⟨b, o, rfl⟩ := r1.pos (by omega)
          exact ⟨b, o, x2, e⟩
        have RS8 := hid (show Reads w6 (some ⟨sb, so, none⟩) SL.length SL by obtain ⟨x1, x2, e, r1, -⟩ := Reads.own S8.out BD8.out; obtain ⟨rfl, -, -⟩ := Value.slice.inj e; exact r1)
        have hUz := B6.out.gr.size
        refine anyK_step (i := 4) (by kernel_rfl) rfl (fun K hK => ?_)
        refine step_append_lies _ (by rfl) _ _ _ (by rfl) U.heap.size 5 i0 (.int .u8 0) 1 1 Try.underlying22 hi hz0 hz1 hz2 rfl (by omega) (.slice a3 D3.length q3) D3.length (bys D3) (by rfl) B6.out.own ⟨sb, so, none⟩ SL.length sc (bys SL) (by rfl) (by rw [bys_length]; omega) RS8.out.news (bys_one _) (by omega) (by unfold maxLen; omega) (by omega) hUz _ rfl ?_
        intro vg vc w9 o9 g9 hat _
        have T9 := (B6.out.grow g9).1
        have z5 : w9.cell? ⟨p, 3, none⟩ = some (.slice a3 D3.length q3) := by rw [cell_of_row _ _ _ _ _ _ T9]; rfl
        have zf : w9.frozen? ⟨p, 3, none⟩ = false := frozen_of_row _ _ _ _ _ T9
        have B7 := hid (B6.out.app (D' := D3 ++ SL) g9 (by rw [List.length_append, bys_append]; exact o9) (bdapp B6.out.bd BD8.out))
        clear o9 g9 hat T9
        refine hK.out _ _ ?_ (fun hH2 => ?_)
        · exact z5
        clear hK K hHeld
        have hHeld := hH2
        clear hH2
        try simp only [Act.put]
        try simp only [List.setIfInBounds_toArray]
        try simp only [List.set_cons_succ, List.set_cons_zero]
        refine anyK_step (i := 5) (by kernel_rfl) rfl (fun K hK => ?_)
        go_simp
        refine hK.out _ _ ?_ (fun hH2 => ?_)
        · exact z5
        clear hK K hHeld
        have hHeld := hH2
        clear hH2
        try simp only [Act.put]
        try simp only [List.setIfInBounds_toArray]
        try simp only [List.set_cons_succ, List.set_cons_zero]
        refine anyK_last (by kernel_rfl) rfl (fun K hK => ?_)
        go_simp
        refine hK.out _ _ ?_
        clear hK K hHeld
        refine anyK_done (by kernel_rfl) ?_ _
        clear z5 zf
        clear hi hz0 hz1 hz2 B6
        have FA := finI (M := 3000) G0.out HQ.out Z0.out T0.out hgl B7.out.gr B7.out.cur B7.out.own B7.out.bd (by rw [List.length_append]; omega) hN3 hf3 (K := K3) (N := N3) (f := f3)
        have TQ := hid FA.1
        have AN := hid FA.2
        have TP := hid B7.out.box
        clear FA
        go_wp2_with (first
          | (refine wpList_load_row rfl 26 _ rfl p rfl 26 _ (0, 0) _ TP.out Try.underlying26 rfl sizeIt ?_)
          | (refine wpList_store_row rfl 26 (.tmp 2) _ rfl q0 #[.int .i64 K3, .int .i64 N3, .float .f64 f3, (.slice (some ⟨vg, 0, none⟩) (D3.length + SL.length) vc)] rfl rfl 26 _ TQ.out ?s1x13 ?s2x13 ?s3x13 ?_))
        case s1x13 => simpa using sizeIt
        try case s2x13 => rfl
        case s3x13 => simp [Value.oneCell']
        refine bodyPost_ret (results_cell_row Try.results40 _ _ q0 26 #[.int .i64 K3, .int .i64 N3, .float .f64 f3, (.slice (some ⟨vg, 0, none⟩) (D3.length + SL.length) vc)] (0, 0) _ rfl (setRow_heap _ _ _ _ _ _ TQ.out) Try.underlying26 rfl sizeIt) rfl ?_
        exact AN.out
    by_cases t4 : t = 4
    · subst t4
      obtain ⟨i0, hi, hz0, hz1, hz2⟩ := info_parts Try.info5
      go_wp2_with fail
      go_loopw [] (fun wr => ∃ (D2 : List Int) (a2 : Option Addr) (c2 : Nat), D2.length ≤ 1100 ∧ Hid (Bi U g p ad n cap zs wr K3 N3 f3 (.slice a2 D2.length c2) D2)) (fun wr => 2000 - lenOf ((wr.cell? ⟨p, 3, none⟩).getD undef))
      case atStart => exact ⟨D3, a3, q3, by omega, B5⟩
      case round =>
        obtain ⟨D2, a2, c2, hD2, hB⟩ := hrel
        clear B5
        have Y1 := hid hB.out.c3
        have y1d := hB.out.drew.c3
        go_wp2_with fail
        go_region_held3 (fun X => X.cell? ⟨p, 3, none⟩ = some (.slice a2 D2.length c2)) (first | exact z1 | exact y1d)
          (first
          | (go_at_call_of 41 (Value.int IntKind.i64 2); refine (l1Below hB.out.drew.cur hn 2 (by omega) (by omega)).mono ?_; rintro e w6 ⟨y, rfl, hy0, hy1, cc, gg⟩; have B6 := hid (hB.out.drew.cursor cc gg); have z1 := B6.out.c3))
        clear cc gg z1 y1d
        rw [show IntKind.i64.wrap (40 + y) = 40 + y by rw [IntKind.wrap_i64]; omega]
        by_cases hco : (D2.length : Int) < 40 + y
        · have B7 := hid (B6.out.alloc (.cells #[.int .u8 120] 5))
          have hUz := B7.out.gr.size
          have y5 := B6.out.c3
          have x5 := B7.out.c3
          clear hB
          go_wp2_with (at_builtin; refine wpList_append_lies _ rfl _ _ 22 rfl U.heap.size 5 i0 (.int .u8 0) 1 1 Try.underlying22 hi hz0 hz1 hz2 rfl (by omega) (.slice a2 D2.length c2) D2.length (bys D2) rfl B7.out.own ⟨w6.heap.size, 0, none⟩ 1 1 [.int .u8 120] rfl rfl (World.news_of_block (heap_alloc_new w6 _)) (by simp [Value.oneCell']) (by omega) (by unfold maxLen; omega) (by omega) hUz _ rfl ?_)
          intro vg vc w9 o9 g9 hat _
          have T9 := (B7.out.grow g9).1
          have z5 : w9.cell? ⟨p, 3, none⟩ = some (.slice a2 D2.length c2) := by rw [cell_of_row _ _ _ _ _ _ T9]; rfl
          have zf : w9.frozen? ⟨p, 3, none⟩ = false := frozen_of_row _ _ _ _ _ T9
          have B8 := hid (B7.out.app (D' := D2 ++ [120]) g9 (by rw [List.length_append, bys_append]; exact o9) (bdapp B7.out.bd (fun i => by rcases i with _ | i <;> simp)))
          clear o9 g9 hat T9 y5 x5 B7 B6
          go_wp2_with fail
          go_roundw
          case rel => exact ⟨D2 ++ [120], some ⟨vg, 0, none⟩, vc, by simp; omega, by rw [List.length_append]; exact B8⟩
          case measure => rw [B8.out.c3, Y1.out]; simp [lenOf]; omega
        · clear hB Y1 hi hz0 hz1 hz2
          have hst0 := fun w a m => run_store Try.prog w a (.float .f64 0) m rfl
          obtain ⟨z0, z1, z2, z3⟩ : Box w6 p K3 N3 f3 a2 D2.length c2 := B6.out.cells
          have zf0 := B6.out.froz 0
          have Bk := hid (B6.out.setK 3)
          obtain ⟨k0, k1, k2, k3⟩ : Box (w6.setCell ⟨p, 0, none⟩ (.int .i64 3)) p 3 N3 f3 a2 D2.length c2 := Bk.out.cells
          have kf1 := Bk.out.froz 1
          have Bn := hid (Bk.out.setN 0)
          obtain ⟨n0, n1, n2, n3⟩ : Box ((w6.setCell ⟨p, 0, none⟩ (.int .i64 3)).setCell ⟨p, 1, none⟩ (.int .i64 0)) p 3 0 f3 a2 D2.length c2 := Bn.out.cells
          have nf2 := Bn.out.froz 2
          have Bf := hid (Bn.out.setF 0)
          clear B6 Bk Bn
          have FA := finI (M := 3000) G0.out HQ.out Z0.out T0.out hgl Bf.out.gr Bf.out.cur Bf.out.own Bf.out.bd (by omega) (by omega) (by omega) (K := 3) (N := 0) (f := 0)
          have TQ := hid FA.1
          have AN := hid FA.2
          have TP := hid Bf.out.box
          clear FA
          go_wp2_with (first
            | (refine wpList_load_row rfl 26 _ rfl p rfl 26 _ (0, 0) _ TP.out Try.underlying26 rfl sizeIt ?_)
            | (refine wpList_store_row rfl 26 (.tmp 2) _ rfl q0 #[.int .i64 3, .int .i64 0, .float .f64 0, (.slice a2 D2.length c2)] rfl rfl 26 _ TQ.out ?s1x14 ?s2x14 ?s3x14 ?_))
          case s1x14 => simpa using sizeIt
          try case s2x14 => rfl
          case s3x14 => simp [Value.oneCell']
          refine bodyPost_ret (results_cell_row Try.results40 _ _ q0 26 #[.int .i64 3, .int .i64 0, .float .f64 0, (.slice a2 D2.length c2)] (0, 0) _ rfl (setRow_heap _ _ _ _ _ _ TQ.out) Try.underlying26 rfl sizeIt) rfl ?_
          exact AN.out
    by_cases t5 : t = 5
    · subst t5
      have B7 := hid (B5.out.row (K' := 2) (N' := 0) (f' := 9223372036854775808) (v' := .slice none 0 0) (D' := []) (World.ownsRow_nil _ _ _ _) (by simp))
      have TB := hid B5.out.box
      clear B5
      have hng := fun w => neg_run 0 9223372036854775808 (by decide) w
      have FA := finI (M := 3000) G0.out HQ.out Z0.out T0.out hgl B7.out.gr B7.out.cur B7.out.own B7.out.bd (by simp) (by omega) (by omega) (K := 2) (N := 0) (f := 9223372036854775808)
      have TQ := hid FA.1
      have AN := hid FA.2
      have TP := hid B7.out.box
      clear FA
      go_wp2_with (first
        | (refine wpList_store_row rfl 26 (.tmp 3) _ rfl p #[.int .i64 2, .int .i64 0, .float .f64 9223372036854775808, .slice none 0 0] rfl rfl 26 _ TB.out ?r1z2 ?r2z2 ?r3z2 ?_)
        | (refine wpList_load_row rfl 26 _ rfl p rfl 26 _ (0, 0) _ TP.out Try.underlying26 rfl sizeIt ?_)
        | (refine wpList_store_row rfl 26 (.tmp 2) _ rfl q0 #[.int .i64 2, .int .i64 0, .float .f64 9223372036854775808, (.slice none 0 0)] rfl rfl 26 _ TQ.out ?s1x15 ?s2x15 ?s3x15 ?_))
      case r1z2 => simpa using sizeIt
      try case r2z2 => rfl
      case r3z2 => simp [Value.oneCell']
      case s1x15 => simpa using sizeIt
      try case s2x15 => rfl
      case s3x15 => simp [Value.oneCell']
      refine bodyPost_ret (results_cell_row Try.results40 _ _ q0 26 #[.int .i64 2, .int .i64 0, .float .f64 9223372036854775808, (.slice none 0 0)] (0, 0) _ rfl (setRow_heap _ _ _ _ _ _ TQ.out) Try.underlying26 rfl sizeIt) rfl ?_
      exact AN.out
    have FA := finI (M := 3000) G0.out HQ.out Z0.out T0.out hgl B5.out.gr B5.out.cur B5.out.own B5.out.bd (by omega) hN3 hf3 (K := K3) (N := N3) (f := f3)
    have TQ := hid FA.1
    have AN := hid FA.2
    have TP := hid B5.out.box
    clear FA
    go_wp2_with (first
      | (refine wpList_load_row rfl 26 _ rfl p rfl 26 _ (0, 0) _ TP.out Try.underlying26 rfl sizeIt ?_)
      | (refine wpList_store_row rfl 26 (.tmp 2) _ rfl q0 #[.int .i64 K3, .int .i64 N3, .float .f64 f3, (.slice a3 D3.length q3)] rfl rfl 26 _ TQ.out ?s1x16 ?s2x16 ?s3x16 ?_))
    case s1x16 => simpa using sizeIt
    try case s2x16 => rfl
    case s3x16 => simp [Value.oneCell']
    refine bodyPost_ret (results_cell_row Try.results40 _ _ q0 26 #[.int .i64 K3, .int .i64 N3, .float .f64 f3, (.slice a3 D3.length q3)] (0, 0) _ rfl (setRow_heap _ _ _ _ _ _ TQ.out) Try.underlying26 rfl sizeIt) rfl ?_
    exact AN.out
end Go.Proofs.Ytlapfmfaammheaa
