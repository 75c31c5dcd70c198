/- The specification's KeyRead, a kind. -/
import Derived.Test.YtggnghnnlemccaaSr0
import Derived.Test.YtggnghnnlemccaaKb
import Derived.Deep.RegionHeld3
namespace Go.Proofs.Ytggnghnnlemccaa
open Go.RowKit
set_option maxRecDepth 100000 in
set_option maxHeartbeats 3200000 in
theorem spec_KeyRead_2y {b off n : Nat} {ts : List Int} {w : World} (h1 : 2 ≤ n) (hm : n ≤ 41) (P : Nat → Prop) (D : ∀ W : World, Calls Try.prog 64 #[.int .u64 (low ts : Int)] W fun e w' => ∃ (y : Nat) (okk : Bool), e = .returned (.tuple #[.float .f64 y, .bool okk]) ∧ y < 18446744073709551616 ∧ Hid (P y) ∧ Still W w') (h : Reads w (some ⟨b, off, none⟩) n (2 :: ts)) (E : ∀ y : Nat, y < 18446744073709551616 → P y → keyB 2 0 y 0 [] = 2 :: ts) :
    Calls Try.prog 35 #[.slice (some ⟨b, off, none⟩) n n] w fun e w' => ∃ (y : Nat) (v : Value), e = .returned (.tuple #[.agg #[.int .i64 2, .int .i64 0, .float .f64 y, v], .bool true]) ∧ y < 18446744073709551616 ∧ Hid (P y) ∧ w'.ownsRow w.heap.size 5 1 v 0 (bys []) ∧ Below w.heap.size w w' := by
  have hl : ts.length = (n - 1) := by have := h.len; rw [List.length_cons] at this; omega
  have hbd := h.bd
  have hbt : ∀ i, 0 ≤ ts.getD i 0 ∧ ts.getD i 0 ≤ 255 := fun i => hbd (i + 1)
  have c0 : w.cell? ⟨b, off, none⟩ = some (.int .u8 2) := by
    rcases h.cells with h0 | ⟨b', off', e, hcc⟩
    · omega
    · cases e; exact hcc 0 (by omega)
  have rd : Reads w (some ⟨b, off + 1, none⟩) (n - 1) ts := by
    have := h.rest (Nat.le_refl _)
    rwa [show tl b off n = (some ⟨b, off + 1, none⟩) by rw [tl, if_neg (by omega)]] at this
  have d0 := cell_old (.cells #[.int .i64 2, .int .i64 0, .float .f64 0, .slice none 0 0] 26) (cell_old (w := w) (.cells #[.int .i64 0, .int .i64 0, .float .f64 0, .slice none 0 0] 26) c0)
  have d00 := cell_old (.cells #[.int .i64 0, .int .i64 0, .float .f64 0, .slice none 0 0] 26) (cell_old (w := w) (.cells #[.int .i64 0, .int .i64 0, .float .f64 0, .slice none 0 0] 26) c0)
  have hst0 := fun w a m => run_store Try.prog w a (.float .f64 0) m rfl
  have i1 : (1 : Int) ≤ (n : Int) := by omega
  have i2 : (n : Int) ≤ 41 := by omega
  have i4 : (0 : Int) < (n : Int) := by omega
  have i6 : ¬ (n : Int) < 1 := by omega
  have i7 : ¬ (41 : Int) < (n : Int) := by omega
  have i8 : 0 < n := by omega
  have i10 : ¬ n = 0 := by omega
  have i12 : ¬ n = 1 := by omega
  have BW0 := hid (two w (.cells #[.int .i64 0, .int .i64 0, .float .f64 0, .slice none 0 0] 26) (.cells #[.int .i64 2, .int .i64 0, .float .f64 0, .slice none 0 0] 26))
  have RW0 := hid (two_rows w (.cells #[.int .i64 0, .int .i64 0, .float .f64 0, .slice none 0 0] 26) (.cells #[.int .i64 2, .int .i64 0, .float .f64 0, .slice none 0 0] 26))
  have HE := hid E
  have H := hid h
  have HRD := hid (rd.below BW0.out (Nat.le_refl _))
  have hx : low ts < 18446744073709551616 := low_lt ts 0 (by omega)
  have HD := hid D
  clear c0 rd h E h1 D
  go_enter Try.func35, Try.ntmps35
  go_wp2_with fail
  refine (spec_l3low (n - 1) HRD.out (by omega)).mono ?_
  rintro e w1 ⟨rfl, hw1⟩
  subst w1
  go_wp2_with fail
  refine (HD.out _).mono ?_
  rintro e w2 ⟨y, okk, rfl, hy, HP, s2⟩
  have hsty := fun w a m => run_store Try.prog w a (.float .f64 y) m rfl
  replace HE := hid (HE.out y hy HP.out)
  have SA : w2.heap[w.heap.size + 1]? = some (.cells #[.int .i64 2, .int .i64 0, .float .f64 0, .slice none 0 0] 26) := by rw [s2.heap]; exact RW0.out.2.1
  have SR : w2.heap[w.heap.size]? = some (.cells #[.int .i64 0, .int .i64 0, .float .f64 0, .slice none 0 0] 26) := by rw [s2.heap]; exact RW0.out.1
  have e2 : w2.cell? ⟨w.heap.size + 1, 2, none⟩ = some (.float .f64 0) := by rw [cell_of_row _ _ _ _ _ _ SA]; rfl
  have fz : w2.frozen? ⟨w.heap.size + 1, 2, none⟩ = false := frozen_of_row _ _ _ _ _ SA
  have RA := hid (heap_setCell_same w2 (w.heap.size + 1) 2 _ 26 (.float .f64 y) SA)
  have RR := hid ((heap_setCell_other w2 ⟨w.heap.size + 1, 2, none⟩ w.heap.size (.float .f64 y) (by simp)).trans SR)
  have bw2 : Below w.heap.size w w2 := BW0.out.trans (s2.below _)
  have BB := hid (bw2.setCell (p := ⟨w.heap.size + 1, 2, none⟩) (by simp) (.float .f64 y))
  have HB5 := hid (H.out.below BB.out (Nat.le_refl _))
  have SZ := hid (show w.heap.size + 1 < (w2.setCell ⟨w.heap.size + 1, 2, none⟩ (.float .f64 y)).heap.size by have h3 := RW0.out.2.2; have h4 := s2.size; rw [setCell_size]; omega)
  clear SA SR bw2 s2
  go_wp2_with fail
  generalize w2.setCell ⟨w.heap.size + 1, 2, none⟩ (.float .f64 y) = W5 at *
  clear e2 fz
  have HS : Hid (∀ W, Below W5.heap.size W5 W → (convert 22 9 (.slice (some ⟨b, off, none⟩) n n)).run Try.prog W = .ok (.string (str (2 :: ts))) W) := hid (fun W bw => (HB5.out.below bw (Nat.le_refl _)).str n 22 Try.underlying22 Try.underlying5 Try.underlying9)
  have HK : Hid (∀ W, Below W5.heap.size W5 W → Calls Try.prog 17 #[.agg #[.int .i64 2, .int .i64 0, .float .f64 y, .slice none 0 0]] W fun e w' => ∃ v, e = .returned v ∧ w'.ownsRow W.heap.size 5 1 v (keyB 2 0 y 0 []).length (bys (keyB 2 0 y 0 [])) ∧ Below W.heap.size W w') := hid (fun W bw => spec_KeyBytes 2 0 y 0 (fun _ => rfl) ⟨rfl, .inl rfl, fun i => by simp⟩ (by omega) (by omega) (by omega) hy)
  have bdB := (keyB_bd (K := 2) (N := 0) (f := y) (n := 0) (zs := []) rfl (fun i => by simp) (by simp)).1
  have HQ := hid (str_eq (a := keyB 2 0 y 0 []) (b := 2 :: ts) bdB hbd)
  rw [decide_eq_true HE.out] at HQ
  generalize keyB 2 0 y 0 [] = BL at *
  have SB := hid (fun (w : World) (ad : Option Addr) (cap : Nat) (r : Reads w ad BL.length BL) => r.str cap 22 Try.underlying22 Try.underlying5 Try.underlying9)
  obtain ⟨c0, c1, c2, c3⟩ := row_cells RA.out
  have q := HQ.out
  clear HQ
  generalize str (2 :: ts) = s2 at *
  generalize str BL = s1 at *
  have sb := HS.out W5.drew ((Still.drew W5).below _)
  go_region_with (go_at_call 17; refine (HK.out _ ((Still.drew W5).below _)).mono ?_; rintro e w6 ⟨v, rfl, o, b6⟩; obtain ⟨ad6, cap6, rfl, r6, _⟩ := Reads.own o bdB; have B6 := hid (((Still.drew W5).below W5.heap.size).trans (b6.mono (Nat.le_refl _))); have s6 := SB.out _ _ cap6 r6; have sb6 := HS.out w6 B6.out; clear o b6 r6)
  all_goals
    have R6 := hid ((B6.out.block w.heap.size (Nat.lt_of_succ_lt SZ.out)).trans RR.out)
    have A6 := hid ((B6.out.block (w.heap.size + 1) SZ.out).trans RA.out)
    have D6 := hid (BB.out.trans (B6.out.mono (Nat.le_of_lt (Nat.lt_of_succ_lt SZ.out))))
    clear RR RA BB HS HK c0 c1 c2 c3 s6 sb sb6
    go_wp2_with (first
      | (refine wpList_load_row rfl 26 (.tmp 4) rfl (w.heap.size + 1) rfl 26 _ (0, 0) _ A6.out Try.underlying26 rfl size26 ?_)
      | (refine wpList_store_row rfl 26 (.tmp 2) (.tmp 53) rfl w.heap.size #[.int .i64 2, .int .i64 0, .float .f64 y, .slice none 0 0] rfl rfl 26 _ R6.out ?s1 ?s2 ?s3 ?_))
    case s1 => exact size26
    case s2 => rfl
    case s3 => simp [Value.oneCell']
    exact bodyPost_ret (results_cell_tmp Try.results35 _ _ w.heap.size 26 #[.int .i64 2, .int .i64 0, .float .f64 y, .slice none 0 0] (0, 0) _ rfl (setRow_heap _ _ _ _ _ _ R6.out) Try.underlying26 rfl size26) rfl ⟨_, _, rfl, hy, HP, World.ownsRow_nil _ _ _ _, below_setRow D6.out (Nat.le_refl _) _⟩
end Go.Proofs.Ytggnghnnlemccaa
