/- The contract of the draw of a value. For codes of at most 2^21 bytes. -/
import Derived.Test.YtioefplkadpfnaaD3k
import Derived.Test.YtioefplkadpfnaaDrn
namespace Go.Proofs.Ytioefplkadpfnaa
open Go.RowKit

set_option maxRecDepth 100000 in
set_option maxHeartbeats 12800000 in
theorem l3value {w : World} {g : Nat} {ad : Option Addr} {n cap : Nat} {zs : List Int} (c : Cur w g ad n cap zs) (hn : n ≤ 2097152) :
    Calls Try.prog 80 #[.pointer (some ⟨g, 0, none⟩)] w fun e w' => AnsI 1000 w g ad n cap zs e w' := by
  have hgl := c.lt
  go_enter Try.func80, Try.ntmps80
  go_wp2_with fail
  have c0 := c.alloc (.cells #[.int .i64 0, .int .i64 0, .float .f64 0, .slice none 0 0] 63)
  have G0 := hid (show w.grownBy (w.alloc (.cells #[.int .i64 0, .int .i64 0, .float .f64 0, .slice none 0 0] 63)) none from World.grownBy_alloc w _ none)
  have T0 := hid (heap_alloc_new w (.cells #[.int .i64 0, .int .i64 0, .float .f64 0, .slice none 0 0] 63))
  have Z0 := hid (show (w.alloc (.cells #[.int .i64 0, .int .i64 0, .float .f64 0, .slice none 0 0] 63)).heap.size = w.heap.size + 1 by simp)
  generalize w.alloc (.cells #[.int .i64 0, .int .i64 0, .float .f64 0, .slice none 0 0] 63) = U at *
  generalize hq0 : w.heap.size = q0 at *
  have HQ := hid hq0
  have hgu : g < U.heap.size := by have := Z0.out; omega
  clear c hq0
  refine (l1Below c0 hn 5 (by omega) (by omega)).mono ?_
  rintro e w1 ⟨t, rfl, ht0, ht1, c1, g1⟩
  clear c0
  by_cases t0 : t = 0
  · subst t0
    go_wp2_with fail
    refine (l1some2 c1 hn 8 (by omega) (by omega)).mono ?_
    rintro e w9 ⟨sv, SL, rfl, o9, bd9, hl9, -, c9, g9⟩
    obtain ⟨a9, q9, rfl⟩ : ∃ a c, sv = .slice a SL.length c := by
      rcases o9.2 with ⟨h1, h2⟩ | ⟨g', cap', cur, h1, _⟩
      · exact ⟨none, 0, by rw [h1, h2]⟩
      · exact ⟨_, _, h1⟩
    have O9 := hid (owns_lower o9 (g1).size)
    clear o9
    have FA := finI (M := 1000) G0.out HQ.out Z0.out T0.out hgl (grown_trans g1 g9) c9 O9.out bd9 hl9 (by omega) (by omega) (K := 3) (N := 0) (f := 0)
    have TQ := hid FA.1
    have AN := hid FA.2
    clear FA
    go_wp2_with (first
      | (refine wpList_store_row rfl 63 _ _ rfl q0 #[.int .i64 3, .int .i64 0, .float .f64 0, (.slice a9 SL.length q9)] rfl rfl 63 _ TQ.out ?s1x1 ?s2x1 ?s3x1 ?_))
    case s1x1 => simpa using sizeIt
    try case s2x1 => rfl
    case s3x1 => simp [Value.oneCell']
    refine bodyPost_ret (results_cell_row Try.results80 _ _ q0 63 #[.int .i64 3, .int .i64 0, .float .f64 0, (.slice a9 SL.length q9)] (0, 0) _ rfl (setRow_heap _ _ _ _ _ _ TQ.out) Try.underlying63 rfl sizeIt) rfl ?_
    exact AN.out
  by_cases t1 : t = 1
  · subst t1
    go_wp2_with fail
    refine (l2float c1 hn).mono ?_
    rintro e w3 ⟨z, rfl, hz, c3, g3⟩
    have G3 := grown_trans g1 g3
    have FA := finI (M := 1000) G0.out HQ.out Z0.out T0.out hgl G3 c3 (show w3.ownsRow U.heap.size 5 1 (.slice none 0 0) ([] : List Int).length (bys []) from World.ownsRow_nil _ _ _ _) (by simp) (by simp) (by omega) hz (K := 2) (N := 0) (f := z)
    have TQ := hid FA.1
    have AN := hid FA.2
    clear FA
    go_wp2_with (first
      | (refine wpList_store_row rfl 63 _ _ rfl q0 #[.int .i64 2, .int .i64 0, .float .f64 z, .slice none 0 0] rfl rfl 63 _ TQ.out ?s1x2 ?s2x2 ?s3x2 ?_))
    case s1x2 => simpa using sizeIt
    try case s2x2 => rfl
    case s3x2 => simp [Value.oneCell']
    refine bodyPost_ret (results_cell_row Try.results80 _ _ q0 63 #[.int .i64 2, .int .i64 0, .float .f64 z, .slice none 0 0] (0, 0) _ rfl (setRow_heap _ _ _ _ _ _ TQ.out) Try.underlying63 rfl sizeIt) rfl ?_
    exact AN.out
  by_cases t2 : t = 2
  · subst t2
    go_wp2_with fail
    refine (l1Below c1 hn 64 (by omega) (by omega)).mono ?_
    rintro e w2 ⟨y, rfl, hy0, hy1, c2, g2⟩
    obtain ⟨z, w7, hrun, hz, st⟩ := quo_run 61 (floatOfInt .f64 (y - 32)) 4616189618054758400 w2
    have c7 := c2.still st.out
    have g7 := grown_still (grown_trans g1 g2) st.out
    have FA := finI (M := 1000) G0.out HQ.out Z0.out T0.out hgl g7 c7 (show w7.ownsRow U.heap.size 5 1 (.slice none 0 0) ([] : List Int).length (bys []) from World.ownsRow_nil _ _ _ _) (by simp) (by simp) (by omega) hz (K := 2) (N := 0) (f := z)
    have TQ := hid FA.1
    have AN := hid FA.2
    clear FA
    go_wp2_with (first
      | (refine wpList_store_row rfl 63 _ _ rfl q0 #[.int .i64 2, .int .i64 0, .float .f64 z, .slice none 0 0] rfl rfl 63 _ TQ.out ?s1x3 ?s2x3 ?s3x3 ?_))
    case s1x3 => simpa using sizeIt
    try case s2x3 => rfl
    case s3x3 => simp [Value.oneCell']
    refine bodyPost_ret (results_cell_row Try.results80 _ _ q0 63 #[.int .i64 2, .int .i64 0, .float .f64 z, .slice none 0 0] (0, 0) _ rfl (setRow_heap _ _ _ _ _ _ TQ.out) Try.underlying63 rfl sizeIt) rfl ?_
    exact AN.out
  by_cases t3 : t = 3
  · subst t3
    go_wp2_with fail
    refine (l1Once c1 hn 5 (by omega) (by omega)).mono ?_
    rintro e w2 ⟨q, rfl, c2, g2⟩
    have G2 := grown_trans g1 g2
    cases q
    · go_wp2_with fail
      refine (l1number c2 hn).mono ?_
      rintro e w9 ⟨y9, rfl, hy90, hy91, c9, g9⟩
      have FA := finI (M := 1000) G0.out HQ.out Z0.out T0.out hgl (grown_trans G2 g9) c9 (show w9.ownsRow U.heap.size 5 1 (.slice none 0 0) ([] : List Int).length (bys []) from World.ownsRow_nil _ _ _ _) (by simp) (by simp) (by omega) (by omega) (K := 1) (N := y9) (f := 0)
      have TQ := hid FA.1
      have AN := hid FA.2
      clear FA
      go_wp2_with (first
        | (refine wpList_store_row rfl 63 _ _ rfl q0 #[.int .i64 1, .int .i64 y9, .float .f64 0, .slice none 0 0] rfl rfl 63 _ TQ.out ?s1x4 ?s2x4 ?s3x4 ?_))
      case s1x4 => simpa using sizeIt
      try case s2x4 => rfl
      case s3x4 => simp [Value.oneCell']
      refine bodyPost_ret (results_cell_row Try.results80 _ _ q0 63 #[.int .i64 1, .int .i64 y9, .float .f64 0, .slice none 0 0] (0, 0) _ rfl (setRow_heap _ _ _ _ _ _ TQ.out) Try.underlying63 rfl sizeIt) rfl ?_
      exact AN.out
    · go_wp2_with fail
      refine (l1some2 c2 hn 40 (by omega) (by omega)).mono ?_
      rintro e w9 ⟨sv, SL, rfl, o9, bd9, hl9, -, c9, g9⟩
      obtain ⟨a9, q9, rfl⟩ : ∃ a c, sv = .slice a SL.length c := by
        rcases o9.2 with ⟨h1, h2⟩ | ⟨g', cap', cur, h1, _⟩
        · exact ⟨none, 0, by rw [h1, h2]⟩
        · exact ⟨_, _, h1⟩
      have O9 := hid (owns_lower o9 (G2).size)
      clear o9
      have FA := finI (M := 1000) G0.out HQ.out Z0.out T0.out hgl (grown_trans G2 g9) c9 O9.out bd9 hl9 (by omega) (by omega) (K := 3) (N := 0) (f := 0)
      have TQ := hid FA.1
      have AN := hid FA.2
      clear FA
      go_wp2_with (first
        | (refine wpList_store_row rfl 63 _ _ rfl q0 #[.int .i64 3, .int .i64 0, .float .f64 0, (.slice a9 SL.length q9)] rfl rfl 63 _ TQ.out ?s1x5 ?s2x5 ?s3x5 ?_))
      case s1x5 => simpa using sizeIt
      try case s2x5 => rfl
      case s3x5 => simp [Value.oneCell']
      refine bodyPost_ret (results_cell_row Try.results80 _ _ q0 63 #[.int .i64 3, .int .i64 0, .float .f64 0, (.slice a9 SL.length q9)] (0, 0) _ rfl (setRow_heap _ _ _ _ _ _ TQ.out) Try.underlying63 rfl sizeIt) rfl ?_
      exact AN.out
  go_wp2_with fail
  refine (l1number c1 hn).mono ?_
  rintro e w9 ⟨y9, rfl, hy90, hy91, c9, g9⟩
  have FA := finI (M := 1000) G0.out HQ.out Z0.out T0.out hgl (grown_trans g1 g9) c9 (show w9.ownsRow U.heap.size 5 1 (.slice none 0 0) ([] : List Int).length (bys []) from World.ownsRow_nil _ _ _ _) (by simp) (by simp) (by omega) (by omega) (K := 1) (N := y9) (f := 0)
  have TQ := hid FA.1
  have AN := hid FA.2
  clear FA
  go_wp2_with (first
    | (refine wpList_store_row rfl 63 _ _ rfl q0 #[.int .i64 1, .int .i64 y9, .float .f64 0, .slice none 0 0] rfl rfl 63 _ TQ.out ?s1x6 ?s2x6 ?s3x6 ?_))
  case s1x6 => simpa using sizeIt
  try case s2x6 => rfl
  case s3x6 => simp [Value.oneCell']
  refine bodyPost_ret (results_cell_row Try.results80 _ _ q0 63 #[.int .i64 1, .int .i64 y9, .float .f64 0, .slice none 0 0] (0, 0) _ rfl (setRow_heap _ _ _ _ _ _ TQ.out) Try.underlying63 rfl sizeIt) rfl ?_
  exact AN.out
end Go.Proofs.Ytioefplkadpfnaa
