/- The contracts of the laws' toPage, szPage, eqPage, markPage, heldPage; a page that came in, read. Conditions: lists of at most 2^21 bytes together where memory is made or counted. -/
import Derived.Test.YtdfieopdbpklnaaPb
namespace Go.Proofs.Ytdfieopdbpklnaa
open Go.RowKit
set_option maxRecDepth 100000

theorem size_pg : (Try.prog.info? 26).map (·.size) = some 2 := by kernel_rfl
/-- What a block holds is kept while cells of another are written. -/
theorem heap_set_ne (w : World) (g o k : Nat) (u : Value) (h : k ≠ g) : (w.setCell ⟨g, o, none⟩ u).heap[k]? = w.heap[k]? := heap_setCell_other w ⟨g, o, none⟩ k u (by simpa using h)

theorem set_size (w : World) (a : Addr) (u : Value) : (w.setCell a u).heap.size = w.heap.size := by simp

set_option maxHeartbeats 3200000 in
theorem toPage (L : Int) {a : Option Addr} {n : Nat} (c : Nat) {ss : List (List Int)} {w : World} (h : ReadsS w a ss) (hl : ss.length = n) (hn : n ≤ 2097152) (hb : ∀ i, (ss.getD i []).length ≤ 2097152) :
    Calls Try.prog 27 #[.agg #[.int .i64 L, .slice a n c]] w fun e w' => ∃ g, e = .returned (.agg #[.int .i64 L, .slice (some ⟨g, 0, none⟩) n n]) ∧ OwnP w' w.heap.size w'.heap.size (.slice (some ⟨g, 0, none⟩) n n) ss ∧ Below w.heap.size w w' := by
  go_enter Try.func27, Try.ntmps27
  go_wp2_with fail
  obtain ⟨z, R1, R2, bW⟩ := three w (.cells #[.int .i64 L, .slice a n c] 41) (.cells #[.int .i64 0, .slice none 0 0] 26) (.cells #[.int .i64 L, .slice none 0 0] 26)
  have zW := hid z
  clear z
  generalize ((w.alloc (.cells #[.int .i64 L, .slice a n c] 41)).alloc (.cells #[.int .i64 0, .slice none 0 0] 26)).alloc (.cells #[.int .i64 L, .slice none 0 0] 26) = W at *
  refine (toByteSS c (h.below bW (Nat.le_refl _)) hl hn hb).mono ?_
  rintro e W1 ⟨xs, rfl, o1, bs1, b1⟩
  have hz := zW.out
  have S1 : W1.heap[w.heap.size + 1]? = _ := (b1.block _ (by omega)).trans R1
  have S2 : W1.heap[w.heap.size + 1 + 1]? = _ := (b1.block _ (by omega)).trans R2
  have hs1 := b1.size
  have c0 : W1.cell? ⟨w.heap.size + 1 + 1, 1, none⟩ = some (.slice none 0 0) := by rw [cell_of_row _ _ _ _ _ _ S2]; rfl
  have f0 : W1.frozen? ⟨w.heap.size + 1 + 1, 1, none⟩ = false := frozen_of_row _ _ _ _ _ S2
  have T2 := hid (heap_setCell_same W1 (w.heap.size + 1 + 1) 1 _ 26 (.slice (some ⟨W.heap.size, 0, none⟩) n n) S2)
  have T1 := hid ((heap_set_ne W1 (w.heap.size + 1 + 1) 1 (w.heap.size + 1) (.slice (some ⟨W.heap.size, 0, none⟩) n n) (by omega)).trans S1)
  have BC := hid ((bW.trans (b1.mono bW.size)).setCell (p := ⟨w.heap.size + 1 + 1, 1, none⟩) (by simp; omega) (.slice (some ⟨W.heap.size, 0, none⟩) n n))
  have OW := hid (show OwnP W1 W.heap.size W1.heap.size (.slice (some ⟨W.heap.size, 0, none⟩) n n) ss from ⟨⟨xs, by rw [hl]; exact o1, bs1⟩, fun g hg => (o1.lt g hg).2⟩)
  have HZ := hid (And.intro hz hs1)
  clear S1 S2 hz hs1 zW R1 R2 b1 bs1 o1 bW
  go_wp2_with (first
    | (refine wpList_load_row rfl 26 (.tmp 3) rfl (w.heap.size + 1 + 1) rfl 26 _ (0, 0) _ T2.out Try.underlying26 rfl size_pg ?_)
    | (refine wpList_store_row rfl 26 (.tmp 2) (.tmp 11) rfl (w.heap.size + 1) #[.int .i64 L, .slice (some ⟨W.heap.size, 0, none⟩) n n] rfl rfl 26 _ T1.out ?s1 ?s2 ?s3 ?_))
  case s1 => exact size_pg
  case s2 => rfl
  case s3 => simp [Value.oneCell']
  obtain ⟨hz, hs1⟩ := HZ.out
  refine bodyPost_ret (results_cell_row Try.results27 _ _ (w.heap.size + 1) 26 #[.int .i64 L, .slice (some ⟨W.heap.size, 0, none⟩) n n] (0, 0) _ rfl (setRow_heap _ _ _ _ _ _ T1.out) Try.underlying26 rfl size_pg) rfl ⟨W.heap.size, rfl, ((OW.out.agree fun k h1 h2 => ?_).mono (by omega) (by simp)), below_setRow BC.out (by omega) _⟩
  rw [setRow_other _ _ _ _ (by omega), heap_set_ne _ _ _ _ _ (by omega)]

set_option maxHeartbeats 1600000 in
theorem szPage (L : Int) {a : Option Addr} {n : Nat} (c : Nat) {ss : List (List Int)} {w : World} (h : ReadsS w a ss) (hl : ss.length = n) (hn : n ≤ 9223372036854775807) :
    Calls Try.prog 26 #[.agg #[.int .i64 L, .slice a n c], .int .i64 1048576] w fun e w' => e = .returned (.int .i64 (lft 1048576 (n + tot ss))) ∧ Below w.heap.size w w' := by
  have hB := Below.alloc1 w (.cells #[.int .i64 L, .slice a n c] 41)
  have H1 := h.below hB (Nat.le_refl _)
  obtain ⟨M, hM⟩ : ∃ M : Int, lft 1048576 (n + tot ss) = M := ⟨_, rfl⟩
  have hM0 : M < 0 → M = -1 := by unfold lft at hM; split at hM <;> omega
  have HM := hid hM
  have HM0 := hid hM0
  clear hM hM0
  go_enter Try.func26, Try.ntmps26
  go_wp2_with fail
  refine (szByteSS c H1 hl hn 1048576 (by omega) (by omega)).mono ?_
  rintro e w1 ⟨rfl, rfl⟩
  rw [HM.out]
  by_cases hq : M < 0
  · go_wp2_with fail
    go_ret
    exact ⟨by rw [HM.out, HM0.out hq]; rfl, hB⟩
  · go_wp2_with fail
    go_ret
    exact ⟨by rw [HM.out]; rfl, hB⟩

set_option maxHeartbeats 1600000 in
theorem eqPage (L : Int) {a a' : Option Addr} {n : Nat} (c c' : Nat) {ss : List (List Int)} {w : World} (h : ReadsS w a ss) (h' : ReadsS w a' ss) (hl : ss.length = n) (hn : n ≤ 2097152) (hb : ∀ i, (ss.getD i []).length ≤ 2097152) :
    Calls Try.prog 28 #[.agg #[.int .i64 L, .slice a n c], .agg #[.int .i64 L, .slice a' n c']] w fun e w' => e = .returned (.bool true) ∧ Below w.heap.size w w' := by
  have hB := two w (.cells #[.int .i64 L, .slice a n c] 26) (.cells #[.int .i64 L, .slice a' n c'] 26)
  have H1 := h.below hB (Nat.le_refl _)
  have H2 := h'.below hB (Nat.le_refl _)
  go_enter Try.func28, Try.ntmps28
  go_wp2_with fail
  refine (eqByteSS c c' H1 H2 hl hn hb).mono ?_
  rintro e W1 ⟨rfl, st⟩
  have HB := hid (hB.trans ((st.below _).mono hB.size))
  clear st hB H1 H2 h h'
  go_wp2_with fail
  go_ret
  exact ⟨rfl, HB.out⟩

set_option maxHeartbeats 1600000 in
theorem markPage {lo hi : Nat} (L : Int) {a : Option Addr} {n : Nat} (c : Nat) {ss : List (List Int)} {w : World} (k : Int) (h : OwnP w lo hi (.slice a n c) ss) (hh : hi ≤ w.heap.size) (hl : ss.length = n) (hn : n ≤ 2097152) (ht : tot ss ≤ 2097152) (hk0 : 0 ≤ k) (hk1 : k ≤ 500000000) :
    Calls Try.prog 32 #[.agg #[.int .i64 L, .slice a n c], .int .i64 k] w fun e w' => e = .returned (.int .i64 (k + tot ss)) ∧ OwnP w' lo hi (.slice a n c) (mkS k ss) ∧ Within lo hi w w' := by
  have hA := Below.alloc1 w (.cells #[.int .i64 L, .slice a n c] 26)
  have h1 := h.below hA hh
  have G0 := Within.of_below (lo := lo) (hi := hi) hA (Nat.le_refl _)
  obtain ⟨xs, o, hB⟩ := h1.own
  have tops := hid h1.top
  have hx := hB.len
  rw [hl] at o
  have HO := hid o
  have HBB := hid hB
  have HG0 := hid G0
  clear h h1 hA o hB G0
  go_enter Try.func32, Try.ntmps32
  go_wp2_with fail
  refine (markByteSS (ys := []) (ts := []) (e1 := 22) k (by decide) hl (by omega) hn ht (by omega) (by omega) HO.out HO.out (by simpa using HBB.out)).mono ?_
  rintro e W1 ⟨rfl, oS1, _, hB1, G1⟩
  have HP := hid (show OwnP W1 lo hi (.slice a n c) (mkS k ss) from ⟨⟨xs, by rw [mkS_length, hl]; exact oS1, by simpa using hB1⟩, tops.out⟩)
  have HG := hid (HG0.out.trans G1)
  clear oS1 hB1 G1
  go_wp2_with fail
  go_ret
  exact ⟨rfl, HP.out, HG.out⟩

set_option maxHeartbeats 1600000 in
theorem heldPage (L : Int) {a : Option Addr} {n : Nat} (c : Nat) {ss : List (List Int)} {w : World} (k : Int) (h : ReadsS w a (mkS k ss)) (hl : ss.length = n) (hn : n ≤ 2097152) (ht : tot ss ≤ 2097152) (hk0 : 0 ≤ k) (hk1 : k ≤ 500000000) :
    Calls Try.prog 34 #[.agg #[.int .i64 L, .slice a n c], .int .i64 k] w fun e w' => e = .returned (.int .i64 (k + tot ss)) ∧ Below w.heap.size w w' := by
  have hA := Below.alloc1 w (.cells #[.int .i64 L, .slice a n c] 26)
  have H1 := hid (h.below hA (Nat.le_refl _))
  have HA := hid hA
  have hq3 : ¬ k + (tot ss : Int) < 0 := by omega
  clear h hA
  go_enter Try.func34, Try.ntmps34
  go_wp2_with fail
  refine (heldByteSS c k H1.out hl hn ht (by omega) (by omega)).mono ?_
  rintro e w1 ⟨rfl, rfl⟩
  go_wp2_with fail
  go_ret
  exact ⟨rfl, HA.out⟩

section
variable {H : Type} {enc : TypeId × Value → H} {w : World} {base : Nat} {held : Bool}
theorem page_in {r : Reach} {b0 : Nat} {v : Value} {d : DataW H} {p : List MemPlace} (hv : Value.okWide Try.prog w r b0 41 v) (h : DataW.Trod enc Try.prog w base (fun _ => true) held 41 v d p) :
    ∃ L a n c ss, v = .agg #[.int .i64 L, .slice a n c] ∧ ss.length = n ∧ n ≤ maxLen ∧ ReadsS w a ss ∧ -9223372036854775808 ≤ L ∧ L ≤ 9223372036854775807 := by
  obtain ⟨u0, u1, y0, y1, nn, rfl, _, _, t0, t1⟩ := Go.Joins.open_agg2 Try.underlying41 (by kernel_rfl) (by kernel_rfl) hv h
  obtain ⟨F, eF, _, hF⟩ := DataW.trod_int Try.underlying3 t0
  obtain ⟨a, n, c, ss, rfl, e1, e2, r1⟩ := sectors_in t1
  obtain rfl : u0 = _ := by simpa using eF
  exact ⟨F, a, n, c, ss, rfl, e1, e2, r1, bounds_i64 hF⟩
end
end Go.Proofs.Ytdfieopdbpklnaa
