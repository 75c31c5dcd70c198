/- The contract of the draw of a key. For codes of at most 2^21 bytes. -/
import Derived.Test.YtioefplkadpfnaaDrl
import Derived.Test.YtioefplkadpfnaaD5s
import Derived.Test.YtioefplkadpfnaaMga
import Derived.Test.YtioefplkadpfnaaId
namespace Go.Proofs.Ytioefplkadpfnaa
open Go.RowKit

/-- A quotient, whatever it is. -/
theorem quo_run (t : TypeId) (s x : Nat) (w : World) :
    ∃ y w', (binOp .quo t (.float .f64 s) (.float .f64 x)).run Try.prog w = .ok (.float .f64 y) w' ∧ y < 18446744073709551616 ∧ Hid (Still w w') := by
  cases hb : floatBits .quo .f64 s x with
  | none =>
    obtain ⟨n, h1, h2, h3⟩ := nan_run .quo t s x (by simp) hb w
    exact ⟨n, _, h1, h3, hid (Still.drew w)⟩
  | some r =>
    have hr : r < 18446744073709551616 := by have := floatBits_wf hb; simpa [Lit.wf] using this
    exact ⟨r, w, run_float_arith w .quo t .f64 s x r hb, hr, hid (Still.refl w)⟩
theorem cleanF_lt {f : Nat} (h : f < 18446744073709551616) : cleanF f < 18446744073709551616 := by
  unfold cleanF; split <;> omega
theorem sizeIt : (Try.prog.info? 63).map (·.size) = some 4 := by kernel_rfl

/-- What the draw of an item answers, since the world w. -/
structure AnsI (M : Nat) (w : World) (g : Nat) (ad : Option Addr) (n cap : Nat) (zs : List Int) (e : Ending) (w' : World) : Prop where
  ex : ∃ K N f v D, e = .returned (.agg #[.int .i64 K, .int .i64 N, .float .f64 f, v]) ∧ w'.ownsRow w.heap.size 5 1 v D.length (bys D) ∧ (∀ i, 0 ≤ D.getD i 0 ∧ D.getD i 0 ≤ 255) ∧ D.length ≤ M ∧ (-9223372036854775808 ≤ N ∧ N ≤ 9223372036854775807) ∧ f < 18446744073709551616 ∧ Cur w' g ad n cap zs ∧ w.grownBy w' (some g)
theorem finI {M : Nat} {w U wr : World} {g q0 : Nat} {ad : Option Addr} {n cap : Nat} {zs : List Int} {K N : Int} {f : Nat} {v : Value} {D : List Int} {zc : Array Value} (G0 : w.grownBy U none) (hq : w.heap.size = q0) (hz : U.heap.size = q0 + 1) (T0 : U.heap[q0]? = some (.cells zc 63)) (hgl : g < q0)
    (gr : U.grownBy wr (some g)) (cr : Cur wr g ad n cap zs) (o : wr.ownsRow U.heap.size 5 1 v D.length (bys D)) (hb : ∀ i, 0 ≤ D.getD i 0 ∧ D.getD i 0 ≤ 255) (hM : D.length ≤ M) (hN : -9223372036854775808 ≤ N ∧ N ≤ 9223372036854775807) (hf : f < 18446744073709551616) :
    wr.heap[q0]? = some (.cells zc 63) ∧ AnsI M w g ad n cap zs (.returned (.agg #[.int .i64 K, .int .i64 N, .float .f64 f, v])) (wr.setRow q0 #[.int .i64 K, .int .i64 N, .float .f64 f, v]) := by
  have T1 : wr.heap[q0]? = some (.cells zc 63) := (gr.block q0 (by omega) (by simp; omega)).trans T0
  refine ⟨T1, ?_⟩
  have hU : w.grownBy U (some g) := ⟨G0.os, G0.tape, G0.output, G0.size, fun k hk _ => G0.block k hk (by simp)⟩
  have hg : wr.grownBy (wr.setRow q0 #[.int .i64 K, .int .i64 N, .float .f64 f, v]) (some q0) := ⟨rfl, rfl, rfl, by simp, fun q _ hq => setRow_other _ _ _ _ (fun e => hq (by rw [e]))⟩
  exact ⟨K, N, f, v, D, rfl, owns_lower (o.kept hg (oty_ne o T1 (by decide))) (by omega), hb, hM, hN, hf, cr.other hg (fun q hq => by cases hq; exact hgl), grown_new (grown_trans hU gr) hg (fun r hr => by cases hr; omega)⟩
theorem below_grown {w w' : World} (b : Below w.heap.size w w') : w.grownBy w' none := ⟨b.os, b.tape, b.output, b.size, fun k hk _ => b.block k hk⟩

theorem clean_any (K N : Int) (f : Nat) {ad : Option Addr} {n : Nat} (cap : Nat) (hnil : ad = none → cap = 0) {zs : List Int} {w : World} (h : Reads w ad n zs) (hf : f < 18446744073709551616) (hn : n ≤ 2097152) (hN : -9223372036854775808 ≤ N ∧ N ≤ 9223372036854775807) :
    Calls Try.prog 95 #[.agg #[.int .i64 K, .int .i64 N, .float .f64 f, .slice ad n cap]] w fun e w' => ∃ K' N' f' v D, e = .returned (.agg #[.int .i64 K', .int .i64 N', .float .f64 f', v]) ∧ w'.ownsRow w.heap.size 5 1 v D.length (bys D) ∧ (∀ i, 0 ≤ D.getD i 0 ∧ D.getD i 0 ≤ 255) ∧ D.length ≤ n ∧ (-9223372036854775808 ≤ N' ∧ N' ≤ 9223372036854775807) ∧ f' < 18446744073709551616 ∧ Below w.heap.size w w' := by
  by_cases hok : okI K N f n = true
  · refine (spec_ItemClean_yes K N f cap hnil h hf hn hok).mono ?_
    rintro e w' ⟨v, rfl, o, b⟩
    have hl := h.len
    subst hl
    exact ⟨K, N, _, v, zs, rfl, o, h.bd, Nat.le_refl _, hN, cleanF_lt hf, b⟩
  · refine (spec_ItemClean_no K N f ad n cap hf hn (by simpa using hok) w).mono ?_
    rintro e w' ⟨rfl, b⟩
    exact ⟨0, 0, 0, _, [], rfl, World.ownsRow_nil _ _ _ _, by simp, Nat.zero_le _, by omega, by omega, b⟩

set_option maxRecDepth 100000 in
set_option maxHeartbeats 12800000 in
theorem l3key {w : World} {g : Nat} {ad : Option Addr} {n cap : Nat} {zs : List Int} (c : Cur w g ad n cap zs) (hn : n ≤ 2097152) :
    Calls Try.prog 79 #[.pointer (some ⟨g, 0, none⟩)] w fun e w' => AnsI 1000 w g ad n cap zs e w' := by
  have hgl := c.lt
  go_enter Try.func79, Try.ntmps79
  go_wp2_with fail
  have c0 := c.alloc (.cells #[.int .i64 0, .int .i64 0, .float .f64 0, .slice none 0 0] 63)
  have G0 := hid (show w.grownBy (w.alloc (.cells #[.int .i64 0, .int .i64 0, .float .f64 0, .slice none 0 0] 63)) none from World.grownBy_alloc w _ none)
  have T0 := hid (heap_alloc_new w (.cells #[.int .i64 0, .int .i64 0, .float .f64 0, .slice none 0 0] 63))
  have Z0 := hid (show (w.alloc (.cells #[.int .i64 0, .int .i64 0, .float .f64 0, .slice none 0 0] 63)).heap.size = w.heap.size + 1 by simp)
  generalize w.alloc (.cells #[.int .i64 0, .int .i64 0, .float .f64 0, .slice none 0 0] 63) = U at *
  generalize hq0 : w.heap.size = q0 at *
  have HQ := hid hq0
  have hgu : g < U.heap.size := by have := Z0.out; omega
  clear c hq0
  refine (l1Below c0 hn 6 (by omega) (by omega)).mono ?_
  rintro e w1 ⟨t, rfl, ht0, ht1, c1, g1⟩
  clear c0
  by_cases t0 : t = 0
  · subst t0
    go_wp2_with fail
    refine (l1Below c1 hn 3 (by omega) (by omega)).mono ?_
    rintro e w2 ⟨y, rfl, hy0, hy1, c2, g2⟩
    have OL := hid (show (w2.alloc (.cells #[.int .u8 (97 + y)] 5)).ownsRow U.heap.size 5 1 (.slice (some ⟨w2.heap.size, 0, none⟩) 1 1) [97 + y].length (bys [97 + y]) from World.ownsRow_lit (base := U.heap.size) (e := 5) (size := 1) w2 #[.int .u8 (97 + y)] 1 ((grown_trans g1 g2)).size (by unfold maxLen; omega) rfl)
    have FA := finI (M := 1000) G0.out HQ.out Z0.out T0.out hgl (grown_new (grown_trans g1 g2) (World.grownBy_alloc w2 (.cells #[.int .u8 (97 + y)] 5) none) (fun r hr => by cases hr)) (c2.alloc (.cells #[.int .u8 (97 + y)] 5)) OL.out (fun i => by rcases i with _ | i <;> simp <;> omega) (by simp) (by omega) (by omega) (K := 3) (N := 0) (f := 0)
    have TQ := hid FA.1
    have AN := hid FA.2
    clear FA
    go_wp2_with (first
      | (refine wpList_store_row rfl 63 _ _ rfl q0 #[.int .i64 3, .int .i64 0, .float .f64 0, .slice (some ⟨w2.heap.size, 0, none⟩) 1 1] rfl rfl 63 _ TQ.out ?s1x1 ?s2x1 ?s3x1 ?_))
    case s1x1 => simpa using sizeIt
    try case s2x1 => rfl
    case s3x1 => simp [Value.oneCell']
    refine bodyPost_ret (results_cell_row Try.results79 _ _ q0 63 #[.int .i64 3, .int .i64 0, .float .f64 0, .slice (some ⟨w2.heap.size, 0, none⟩) 1 1] (0, 0) _ rfl (setRow_heap _ _ _ _ _ _ TQ.out) Try.underlying63 rfl sizeIt) rfl ?_
    exact AN.out
  by_cases t1 : t = 1
  · subst t1
    go_wp2_with fail
    refine (l1Below c1 hn 5 (by omega) (by omega)).mono ?_
    rintro e w2 ⟨y, rfl, hy0, hy1, c2, g2⟩
    obtain ⟨z, w7, hrun, hz, st⟩ := quo_run 61 (floatOfInt .f64 (y - 2)) 4611686018427387904 w2
    go_wp2_with fail
    have c7 := c2.still st.out
    have g7 := grown_still (grown_trans g1 g2) st.out
    clear hrun
    refine (clean_any 2 0 z (ad := none) (n := 0) 0 (fun _ => rfl) (zs := []) (w := w7) ⟨rfl, .inl rfl, by simp⟩ hz (by omega) (by omega)).mono ?_
    rintro e w8 ⟨K', N', f', v', D', rfl, o8, bd8, hD8, hN8, hf8, b8⟩
    obtain ⟨a8, c8, rfl⟩ : ∃ a c, v' = .slice a D'.length c := by
      rcases o8.2 with ⟨h1, h2⟩ | ⟨g', cap', cur, h1, _⟩
      · exact ⟨none, 0, by rw [h1, h2]⟩
      · exact ⟨_, _, h1⟩
    have O8 := hid (owns_lower o8 (g7).size)
    clear o8
    have FA := finI (M := 1000) G0.out HQ.out Z0.out T0.out hgl (grown_new g7 (below_grown b8) (fun r hr => by cases hr)) (c7.below b8 (Nat.le_refl _)) O8.out bd8 (by omega) hN8 hf8 (K := K') (N := N') (f := f')
    have TQ := hid FA.1
    have AN := hid FA.2
    clear FA
    go_wp2_with (first
      | (refine wpList_store_row rfl 63 _ _ rfl q0 #[.int .i64 K', .int .i64 N', .float .f64 f', (.slice a8 D'.length c8)] rfl rfl 63 _ TQ.out ?s1x2 ?s2x2 ?s3x2 ?_))
    case s1x2 => simpa using sizeIt
    try case s2x2 => rfl
    case s3x2 => simp [Value.oneCell']
    refine bodyPost_ret (results_cell_row Try.results79 _ _ q0 63 #[.int .i64 K', .int .i64 N', .float .f64 f', (.slice a8 D'.length c8)] (0, 0) _ rfl (setRow_heap _ _ _ _ _ _ TQ.out) Try.underlying63 rfl sizeIt) rfl ?_
    exact AN.out
  by_cases t2 : t = 2
  · subst t2
    go_wp2_with fail
    refine (l1Once c1 hn 3 (by omega) (by omega)).mono ?_
    rintro e w2 ⟨q, rfl, c2, g2⟩
    have G2 := grown_trans g1 g2
    cases q
    · go_wp2_with fail
      refine (l1Below c2 hn 6 (by omega) (by omega)).mono ?_
      rintro e w9 ⟨y9, rfl, hy90, hy91, c9, g9⟩
      have FA := finI (M := 1000) G0.out HQ.out Z0.out T0.out hgl (grown_trans G2 g9) c9 (show w9.ownsRow U.heap.size 5 1 (.slice none 0 0) ([] : List Int).length (bys []) from World.ownsRow_nil _ _ _ _) (by simp) (by simp) (by omega) (by omega) (K := 1) (N := (y9 - 1)) (f := 0)
      have TQ := hid FA.1
      have AN := hid FA.2
      clear FA
      go_wp2_with (first
        | (refine wpList_store_row rfl 63 _ _ rfl q0 #[.int .i64 1, .int .i64 (y9 - 1), .float .f64 0, .slice none 0 0] rfl rfl 63 _ TQ.out ?s1x3 ?s2x3 ?s3x3 ?_))
      case s1x3 => simpa using sizeIt
      try case s2x3 => rfl
      case s3x3 => simp [Value.oneCell']
      refine bodyPost_ret (results_cell_row Try.results79 _ _ q0 63 #[.int .i64 1, .int .i64 (y9 - 1), .float .f64 0, .slice none 0 0] (0, 0) _ rfl (setRow_heap _ _ _ _ _ _ TQ.out) Try.underlying63 rfl sizeIt) rfl ?_
      exact AN.out
    · go_wp2_with fail
      refine (l2float c2 hn).mono ?_
      rintro e w3 ⟨z, rfl, hz, c3, g3⟩
      have G3 := grown_trans G2 g3
      go_wp2_with fail
      refine (clean_any 2 0 z (ad := none) (n := 0) 0 (fun _ => rfl) (zs := []) (w := w3) ⟨rfl, .inl rfl, by simp⟩ hz (by omega) (by omega)).mono ?_
      rintro e w8 ⟨K', N', f', v', D', rfl, o8, bd8, hD8, hN8, hf8, b8⟩
      obtain ⟨a8, c8, rfl⟩ : ∃ a c, v' = .slice a D'.length c := by
        rcases o8.2 with ⟨h1, h2⟩ | ⟨g', cap', cur, h1, _⟩
        · exact ⟨none, 0, by rw [h1, h2]⟩
        · exact ⟨_, _, h1⟩
      have O8 := hid (owns_lower o8 (G3).size)
      clear o8
      have FA := finI (M := 1000) G0.out HQ.out Z0.out T0.out hgl (grown_new G3 (below_grown b8) (fun r hr => by cases hr)) (c3.below b8 (Nat.le_refl _)) O8.out bd8 (by omega) hN8 hf8 (K := K') (N := N') (f := f')
      have TQ := hid FA.1
      have AN := hid FA.2
      clear FA
      go_wp2_with (first
        | (refine wpList_store_row rfl 63 _ _ rfl q0 #[.int .i64 K', .int .i64 N', .float .f64 f', (.slice a8 D'.length c8)] rfl rfl 63 _ TQ.out ?s1x4 ?s2x4 ?s3x4 ?_))
      case s1x4 => simpa using sizeIt
      try case s2x4 => rfl
      case s3x4 => simp [Value.oneCell']
      refine bodyPost_ret (results_cell_row Try.results79 _ _ q0 63 #[.int .i64 K', .int .i64 N', .float .f64 f', (.slice a8 D'.length c8)] (0, 0) _ rfl (setRow_heap _ _ _ _ _ _ TQ.out) Try.underlying63 rfl sizeIt) rfl ?_
      exact AN.out
  by_cases t3 : t = 3
  · subst t3
    go_wp2_with fail
    refine (l1Once c1 hn 4 (by omega) (by omega)).mono ?_
    rintro e w2 ⟨q, rfl, c2, g2⟩
    have G2 := grown_trans g1 g2
    cases q
    · go_wp2_with fail
      refine (l1Below c2 hn 6 (by omega) (by omega)).mono ?_
      rintro e w9 ⟨y9, rfl, hy90, hy91, c9, g9⟩
      have FA := finI (M := 1000) G0.out HQ.out Z0.out T0.out hgl (grown_trans G2 g9) c9 (show w9.ownsRow U.heap.size 5 1 (.slice none 0 0) ([] : List Int).length (bys []) from World.ownsRow_nil _ _ _ _) (by simp) (by simp) (by omega) (by omega) (K := 1) (N := (y9 - 1)) (f := 0)
      have TQ := hid FA.1
      have AN := hid FA.2
      clear FA
      go_wp2_with (first
        | (refine wpList_store_row rfl 63 _ _ rfl q0 #[.int .i64 1, .int .i64 (y9 - 1), .float .f64 0, .slice none 0 0] rfl rfl 63 _ TQ.out ?s1x5 ?s2x5 ?s3x5 ?_))
      case s1x5 => simpa using sizeIt
      try case s2x5 => rfl
      case s3x5 => simp [Value.oneCell']
      refine bodyPost_ret (results_cell_row Try.results79 _ _ q0 63 #[.int .i64 1, .int .i64 (y9 - 1), .float .f64 0, .slice none 0 0] (0, 0) _ rfl (setRow_heap _ _ _ _ _ _ TQ.out) Try.underlying63 rfl sizeIt) rfl ?_
      exact AN.out
    · go_wp2_with fail
      refine (l1some2 c2 hn 40 (by omega) (by omega)).mono ?_
      rintro e w9 ⟨sv, SL, rfl, o9, bd9, hl9, -, c9, g9⟩
      obtain ⟨a9, q9, rfl⟩ : ∃ a c, sv = .slice a SL.length c := by
        rcases o9.2 with ⟨h1, h2⟩ | ⟨g', cap', cur, h1, _⟩
        · exact ⟨none, 0, by rw [h1, h2]⟩
        · exact ⟨_, _, h1⟩
      have O9 := hid (owns_lower o9 (G2).size)
      clear o9
      have FA := finI (M := 1000) G0.out HQ.out Z0.out T0.out hgl (grown_trans G2 g9) c9 O9.out bd9 hl9 (by omega) (by omega) (K := 3) (N := 0) (f := 0)
      have TQ := hid FA.1
      have AN := hid FA.2
      clear FA
      go_wp2_with (first
        | (refine wpList_store_row rfl 63 _ _ rfl q0 #[.int .i64 3, .int .i64 0, .float .f64 0, (.slice a9 SL.length q9)] rfl rfl 63 _ TQ.out ?s1x6 ?s2x6 ?s3x6 ?_))
      case s1x6 => simpa using sizeIt
      try case s2x6 => rfl
      case s3x6 => simp [Value.oneCell']
      refine bodyPost_ret (results_cell_row Try.results79 _ _ q0 63 #[.int .i64 3, .int .i64 0, .float .f64 0, (.slice a9 SL.length q9)] (0, 0) _ rfl (setRow_heap _ _ _ _ _ _ TQ.out) Try.underlying63 rfl sizeIt) rfl ?_
      exact AN.out
  go_wp2_with fail
  refine (l1Below c1 hn 6 (by omega) (by omega)).mono ?_
  rintro e w9 ⟨y9, rfl, hy90, hy91, c9, g9⟩
  have FA := finI (M := 1000) G0.out HQ.out Z0.out T0.out hgl (grown_trans g1 g9) c9 (show w9.ownsRow U.heap.size 5 1 (.slice none 0 0) ([] : List Int).length (bys []) from World.ownsRow_nil _ _ _ _) (by simp) (by simp) (by omega) (by omega) (K := 1) (N := (y9 - 1)) (f := 0)
  have TQ := hid FA.1
  have AN := hid FA.2
  clear FA
  go_wp2_with (first
    | (refine wpList_store_row rfl 63 _ _ rfl q0 #[.int .i64 1, .int .i64 (y9 - 1), .float .f64 0, .slice none 0 0] rfl rfl 63 _ TQ.out ?s1x7 ?s2x7 ?s3x7 ?_))
  case s1x7 => simpa using sizeIt
  try case s2x7 => rfl
  case s3x7 => simp [Value.oneCell']
  refine bodyPost_ret (results_cell_row Try.results79 _ _ q0 63 #[.int .i64 1, .int .i64 (y9 - 1), .float .f64 0, .slice none 0 0] (0, 0) _ rfl (setRow_heap _ _ _ _ _ _ TQ.out) Try.underlying63 rfl sizeIt) rfl ?_
  exact AN.out
end Go.Proofs.Ytioefplkadpfnaa
