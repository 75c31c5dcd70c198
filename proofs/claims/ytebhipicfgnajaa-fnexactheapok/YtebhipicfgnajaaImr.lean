/- KeyRead and ValueRead of the program. -/
import Derived.Test.YtebhipicfgnajaaIr
namespace Go.Proofs.Ytebhipicfgnajaa
open Go.RowKit

theorem readR_bd {d : Nat → Option Nat} {zs : List Int} {RK RN : Int} {RF : Nat} {RZ : List Int} {ok : Bool} (hR : readR d zs = (RK, RN, RF, RZ, ok)) (hz : ∀ i, 0 ≤ zs.getD i 0 ∧ zs.getD i 0 ≤ 255) (hl : zs.length ≤ 1048576) : (∀ i, 0 ≤ RZ.getD i 0 ∧ RZ.getD i 0 ≤ 255) ∧ RZ.length ≤ 1048576 := by
  have key : RZ = [] ∨ ∃ k, zs = k :: RZ := by
    cases zs with
    | nil =>
      simp only [readR, Prod.mk.injEq] at hR
      exact .inl hR.2.2.2.1.symm
    | cons k ts =>
      simp only [readR] at hR
      split at hR
      · split at hR
        · simp only [Prod.mk.injEq] at hR
          exact .inr ⟨k, by rw [hR.2.2.2.1]⟩
        · simp only [Prod.mk.injEq] at hR
          exact .inl hR.2.2.2.1.symm
      · split at hR
        · split at hR
          · simp only [Prod.mk.injEq] at hR
            exact .inl hR.2.2.2.1.symm
          · split at hR
            · split at hR
              · simp only [Prod.mk.injEq] at hR
                exact .inl hR.2.2.2.1.symm
              · simp only [Prod.mk.injEq] at hR
                exact .inl hR.2.2.2.1.symm
            · simp only [Prod.mk.injEq] at hR
              exact .inl hR.2.2.2.1.symm
        · simp only [Prod.mk.injEq] at hR
          exact .inl hR.2.2.2.1.symm
  rcases key with rfl | ⟨k, rfl⟩
  · exact ⟨fun i => by simp, by simp⟩
  · exact ⟨fun i => hz (i + 1), by simp at hl; omega⟩

theorem itemRead_K {ad : Option Addr} {n : Nat} (cap : Nat) (hcap : n ≤ cap) {zs : List Int} {w : World} (h : Reads w ad n zs) (hn : n ≤ 1048576) {RK RN : Int} {RF : Nat} {RZ : List Int} {ok : Bool} (hR : readR unfK zs = (RK, RN, RF, RZ, ok)) :
    Calls Try.prog 90 #[.slice ad n cap, .func (.func 91) #[] #[]] w fun e w' => ∃ (f' : Nat) (v : Value), e = .returned (.tuple #[.agg #[.int .i64 RK, .int .i64 RN, .float .f64 f', v], .bool ok]) ∧ f' < 18446744073709551616 ∧ Hid (Same RF f') ∧ w'.ownsRow w.heap.size 5 1 v RZ.length (bys RZ) ∧ Below w.heap.size w w' := by
  have hl := h.len
  have hbdz := h.bd
  have no : ∀ e w', (e = Ending.returned (.tuple #[.agg #[.int .i64 0, .int .i64 0, .float .f64 0, .slice none 0 0], .bool false]) ∧ Below w.heap.size w w') → (0, 0, 0, [], false) = (RK, RN, RF, RZ, ok) → ∃ (f' : Nat) (v : Value), e = .returned (.tuple #[.agg #[.int .i64 RK, .int .i64 RN, .float .f64 f', v], .bool ok]) ∧ f' < 18446744073709551616 ∧ Hid (Same RF f') ∧ w'.ownsRow w.heap.size 5 1 v RZ.length (bys RZ) ∧ Below w.heap.size w w' := by
    rintro e w' ⟨rfl, b⟩ hR
    simp only [Prod.mk.injEq] at hR
    obtain ⟨rfl, rfl, rfl, rfl, rfl⟩ := hR
    exact ⟨_, _, rfl, by omega, hid (Same.refl _), World.ownsRow_nil _ _ _ _, b⟩
  cases zs with
  | nil =>
    obtain rfl : n = 0 := by simpa using hl.symm
    exact (itemRead_nil 91 ad cap w).mono fun e w' hh => no e w' hh hR
  | cons k ts =>
    have hl' : ts.length + 1 = n := by simpa using hl
    obtain ⟨b, off, rfl⟩ := h.pos (by omega)
    have hk : 0 ≤ k ∧ k ≤ 255 := hbdz 0
    have c0 : w.cell? ⟨b, off, none⟩ = some (.int .u8 k) := by
      rcases h.cells with h0 | ⟨b', off', e, hcc⟩
      · omega
      · cases e; exact hcc 0 (by omega)
    have rd := h.rest hcap
    have hbt : ∀ i, 0 ≤ ts.getD i 0 ∧ ts.getD i 0 ≤ 255 := fun i => hbdz (i + 1)
    simp only [readR] at hR
    by_cases h1 : cap = 1
    · subst h1
      obtain rfl : n = 1 := by omega
      obtain rfl : ts = [] := List.eq_nil_of_length_eq_zero (by omega)
      rw [show tl b off 1 = some ⟨b, off, none⟩ from rfl] at rd
      by_cases k3 : k = 3
      · subst k3
        rw [if_pos rfl, if_pos (by simp)] at hR
        simp only [Prod.mk.injEq] at hR
        obtain ⟨rfl, rfl, rfl, rfl, rfl⟩ := hR
        refine (itemRead_yes1 91 b off 3 123 (.slice (some ⟨b, off, none⟩) 0 0) 3 0 0 [] c0 hk (fun i => by simp) (fun W hW => ?_) (fun W hW => ?_)).mono ?_
        · exact read_text 91 (some ⟨b, off, none⟩) 0 0 W
        · exact itemOf_text 0 (rd.below hW (Nat.le_refl _)) (by omega)
        · rintro e w' ⟨s, rfl, o, bb⟩
          exact ⟨_, _, rfl, by omega, hid (Same.refl _), o, bb⟩
      · rw [if_neg k3, if_neg (by simp)] at hR
        refine (itemRead_no1 91 b off k c0 hk (fun W hW => ?_)).mono fun e w' hh => no e w' hh hR
        exact read_short_K k k3 _ 0 0 (by omega) W
    · have ht : tl b off cap = some ⟨b, off + 1, none⟩ := by rw [tl, if_neg h1]
      rw [ht] at rd
      by_cases k3 : k = 3
      · subst k3
        rw [if_pos rfl] at hR
        by_cases h40 : ts.length ≤ 40
        · rw [if_pos h40] at hR
          simp only [Prod.mk.injEq] at hR
          obtain ⟨rfl, rfl, rfl, rfl, rfl⟩ := hR
          refine (itemRead_yes 91 b off n cap hcap (by omega) 3 123 (.slice (some ⟨b, off + 1, none⟩) (n - 1) (cap - 1)) 3 0 0 ts c0 hk (by omega) hn hbt (fun W hW => ?_) (fun W hW => ?_)).mono ?_
          · have := read_text 91 (some ⟨b, off + 1, none⟩) (n - 1) (cap - 1) W
            rw [decide_eq_true (by omega)] at this
            exact this
          · have := itemOf_text (cap - 1) (rd.below hW (Nat.le_refl _)) (by omega)
            rw [show n - 1 = ts.length by omega] at this ⊢
            exact this
          · rintro e w' ⟨s, rfl, o, bb⟩
            exact ⟨_, _, rfl, by omega, hid (Same.refl _), o, bb⟩
        · rw [if_neg h40] at hR
          refine (itemRead_no 91 b off n cap hcap (by omega) 3 c0 hk (by omega) hn (fun W hW => ?_)).mono fun e w' hh => no e w' hh hR
          have := read_text 91 (some ⟨b, off + 1, none⟩) (n - 1) (cap - 1) W
          rw [decide_eq_false (by omega)] at this
          exact this.mono fun e w' ⟨h1, h2⟩ => ⟨_, h1, h2⟩
      · rw [if_neg k3] at hR
        by_cases h8 : ts.length = 8
        · rw [if_pos h8] at hR
          have hn8 : n - 1 = 8 := by omega
          by_cases k1 : k = 1
          · subst k1
            rw [if_pos rfl] at hR
            simp only [Prod.mk.injEq] at hR
            obtain ⟨rfl, rfl, rfl, rfl, rfl⟩ := hR
            refine (itemRead_yes 91 b off n cap hcap (by omega) 1 126 (.int .i64 ((low ts : Int) - 9223372036854775808)) 1 ((low ts : Int) - 9223372036854775808) 0 [] c0 hk (by omega) hn (fun i => by simp) (fun W hW => ?_) (fun W hW => ?_)).mono ?_
            · exact read_int 91 (cap - 1) (rd.below hW (Nat.le_refl _)) hn8
            · refine (itemOf_int _ W).mono ?_
              rintro e w' ⟨rfl, bb⟩
              exact ⟨_, rfl, World.ownsRow_nil _ _ _ _, bb⟩
            · rintro e w' ⟨s, rfl, o, bb⟩
              exact ⟨_, _, rfl, by omega, hid (Same.refl _), o, bb⟩
          · rw [if_neg k1] at hR
            by_cases k2 : k = 2
            · subst k2
              rw [if_pos rfl] at hR
              have hx : low ts < 18446744073709551616 := low_lt ts 0 (by omega)
              cases hd : unfK (low ts) with
              | none =>
                rw [hd] at hR
                refine (itemRead_no 91 b off n cap hcap (by omega) 2 c0 hk (by omega) hn (fun W hW => ?_)).mono fun e w' hh => no e w' hh hR
                refine (read_float_K (cap - 1) (rd.below hW (Nat.le_refl _)) hn8).mono ?_
                rintro e w' ⟨y, ok', rfl, hy, HD, h2⟩
                have := HD.out
                rw [hd] at this
                cases ok' with
                | false => exact ⟨_, rfl, h2⟩
                | true => cases this
              | some y0 =>
                rw [hd] at hR
                simp only [Prod.mk.injEq] at hR
                obtain ⟨rfl, rfl, rfl, rfl, rfl⟩ := hR
                have hy0 : y0 < 18446744073709551616 := by
                  unfold unfK at hd
                  split at hd
                  · cases hd; first | exact back_lt _ hx | exact hx
                  · cases hd
                refine (itemRead_yes 91 b off n cap hcap (by omega) 2 127 (.float .f64 y0) 2 0 y0 [] c0 hk (by omega) hn (fun i => by simp) (fun W hW => ?_) (fun W hW => ?_)).mono ?_
                · refine (read_float_K (cap - 1) (rd.below hW (Nat.le_refl _)) hn8).mono ?_
                  rintro e w' ⟨y, ok', rfl, hy, HD, h2⟩
                  have := HD.out
                  rw [hd] at this
                  cases ok' with
                  | false => cases this
                  | true => cases this; exact ⟨rfl, h2⟩
                · refine (itemOf_float _ W).mono ?_
                  rintro e w' ⟨rfl, bb⟩
                  exact ⟨_, rfl, World.ownsRow_nil _ _ _ _, bb⟩
                · rintro e w' ⟨s, rfl, o, bb⟩
                  exact ⟨_, _, rfl, hy0, hid (Same.refl _), o, bb⟩
            · rw [if_neg k2] at hR
              refine (itemRead_no 91 b off n cap hcap (by omega) k c0 hk (by omega) hn (fun W hW => ?_)).mono fun e w' hh => no e w' hh hR
              exact read_other_K k k1 k2 k3 (cap - 1) (rd.below hW (Nat.le_refl _)) hn8
        · rw [if_neg h8] at hR
          refine (itemRead_no 91 b off n cap hcap (by omega) k c0 hk (by omega) hn (fun W hW => ?_)).mono fun e w' hh => no e w' hh hR
          exact read_short_K k k3 _ (n - 1) (cap - 1) (by omega) W

set_option maxRecDepth 100000 in
set_option maxHeartbeats 1600000 in
theorem impl_KeyRead {ad : Option Addr} {n : Nat} (cap : Nat) (hcap : n ≤ cap) {zs : List Int} {w : World} (h : Reads w ad n zs) (hn : n ≤ 1048576) {RK RN : Int} {RF : Nat} {RZ : List Int} {ok : Bool} (hR : readR unfK zs = (RK, RN, RF, RZ, ok)) :
    Calls Try.prog 78 #[.slice ad n cap] w fun e w' => ∃ (f' : Nat) (v : Value), e = .returned (.tuple #[.agg #[.int .i64 RK, .int .i64 RN, .float .f64 f', v], .bool ok]) ∧ f' < 18446744073709551616 ∧ Hid (Same RF f') ∧ w'.ownsRow w.heap.size 5 1 v RZ.length (bys RZ) ∧ Below w.heap.size w w' := by
  have hbd := (readR_bd hR h.bd (by rw [h.len]; exact hn)).1
  have HR := hid hR
  have R := heap_alloc_new w (.cells #[.int .i64 0, .int .i64 0, .float .f64 0, .slice none 0 0] 41)
  have HB := hid (Below.alloc1 w (.cells #[.int .i64 0, .int .i64 0, .float .f64 0, .slice none 0 0] 41))
  have HZ := hid (alloc_size w (.cells #[.int .i64 0, .int .i64 0, .float .f64 0, .slice none 0 0] 41))
  have HH := hid (h.alloc (.cells #[.int .i64 0, .int .i64 0, .float .f64 0, .slice none 0 0] 41))
  have H0 := hid R
  clear R hR h
  go_enter Try.func78, Try.ntmps78
  go_wp2_with fail
  refine (itemRead_K cap hcap HH.out hn HR.out).mono ?_
  rintro e w1 ⟨f', v, rfl, hf', SM, o, b1⟩
  obtain ⟨ad1, cap1, rfl, r1, _⟩ := Reads.own o hbd
  have z := HZ.out
  have S1 := (b1.block w.heap.size (by omega)).trans H0.out
  have B1 := HB.out.trans (b1.mono HB.out.size)
  have T1 := hid S1
  rw [z] at o
  have O := hid o
  clear S1 b1 z HZ HB H0 o r1 HH HR
  go_wp2_with (first
    | (refine wpList_store_row rfl 41 (.tmp 2) (.tmp 6) rfl w.heap.size #[.int .i64 RK, .int .i64 RN, .float .f64 f', .slice ad1 RZ.length cap1] rfl rfl 41 _ T1.out ?s1 ?s2 ?s3 ?_))
  case s1 => exact size41
  case s2 => rfl
  case s3 => simp [Value.oneCell']
  refine bodyPost_ret (results_cell_tmp Try.results78 _ _ w.heap.size 41 _ (0, 0) _ rfl (setRow_heap _ _ _ _ _ _ T1.out) Try.underlying41 rfl size41) rfl ⟨_, _, rfl, hf', SM, owns_base (owns_at O.out fun k hk => ?_) (by omega), below_setRow B1 (by omega) _⟩
  rw [setRow_other _ _ _ _ (by omega)]

theorem itemRead_V {ad : Option Addr} {n : Nat} (cap : Nat) (hcap : n ≤ cap) {zs : List Int} {w : World} (h : Reads w ad n zs) (hn : n ≤ 1048576) {RK RN : Int} {RF : Nat} {RZ : List Int} {ok : Bool} (hR : readR unfV zs = (RK, RN, RF, RZ, ok)) :
    Calls Try.prog 90 #[.slice ad n cap, .func (.func 92) #[] #[]] w fun e w' => ∃ (f' : Nat) (v : Value), e = .returned (.tuple #[.agg #[.int .i64 RK, .int .i64 RN, .float .f64 f', v], .bool ok]) ∧ f' < 18446744073709551616 ∧ Hid (Same RF f') ∧ w'.ownsRow w.heap.size 5 1 v RZ.length (bys RZ) ∧ Below w.heap.size w w' := by
  have hl := h.len
  have hbdz := h.bd
  have no : ∀ e w', (e = Ending.returned (.tuple #[.agg #[.int .i64 0, .int .i64 0, .float .f64 0, .slice none 0 0], .bool false]) ∧ Below w.heap.size w w') → (0, 0, 0, [], false) = (RK, RN, RF, RZ, ok) → ∃ (f' : Nat) (v : Value), e = .returned (.tuple #[.agg #[.int .i64 RK, .int .i64 RN, .float .f64 f', v], .bool ok]) ∧ f' < 18446744073709551616 ∧ Hid (Same RF f') ∧ w'.ownsRow w.heap.size 5 1 v RZ.length (bys RZ) ∧ Below w.heap.size w w' := by
    rintro e w' ⟨rfl, b⟩ hR
    simp only [Prod.mk.injEq] at hR
    obtain ⟨rfl, rfl, rfl, rfl, rfl⟩ := hR
    exact ⟨_, _, rfl, by omega, hid (Same.refl _), World.ownsRow_nil _ _ _ _, b⟩
  cases zs with
  | nil =>
    obtain rfl : n = 0 := by simpa using hl.symm
    exact (itemRead_nil 92 ad cap w).mono fun e w' hh => no e w' hh hR
  | cons k ts =>
    have hl' : ts.length + 1 = n := by simpa using hl
    obtain ⟨b, off, rfl⟩ := h.pos (by omega)
    have hk : 0 ≤ k ∧ k ≤ 255 := hbdz 0
    have c0 : w.cell? ⟨b, off, none⟩ = some (.int .u8 k) := by
      rcases h.cells with h0 | ⟨b', off', e, hcc⟩
      · omega
      · cases e; exact hcc 0 (by omega)
    have rd := h.rest hcap
    have hbt : ∀ i, 0 ≤ ts.getD i 0 ∧ ts.getD i 0 ≤ 255 := fun i => hbdz (i + 1)
    simp only [readR] at hR
    by_cases h1 : cap = 1
    · subst h1
      obtain rfl : n = 1 := by omega
      obtain rfl : ts = [] := List.eq_nil_of_length_eq_zero (by omega)
      rw [show tl b off 1 = some ⟨b, off, none⟩ from rfl] at rd
      by_cases k3 : k = 3
      · subst k3
        rw [if_pos rfl, if_pos (by simp)] at hR
        simp only [Prod.mk.injEq] at hR
        obtain ⟨rfl, rfl, rfl, rfl, rfl⟩ := hR
        refine (itemRead_yes1 92 b off 3 123 (.slice (some ⟨b, off, none⟩) 0 0) 3 0 0 [] c0 hk (fun i => by simp) (fun W hW => ?_) (fun W hW => ?_)).mono ?_
        · exact read_text 92 (some ⟨b, off, none⟩) 0 0 W
        · exact itemOf_text 0 (rd.below hW (Nat.le_refl _)) (by omega)
        · rintro e w' ⟨s, rfl, o, bb⟩
          exact ⟨_, _, rfl, by omega, hid (Same.refl _), o, bb⟩
      · rw [if_neg k3, if_neg (by simp)] at hR
        refine (itemRead_no1 92 b off k c0 hk (fun W hW => ?_)).mono fun e w' hh => no e w' hh hR
        exact read_short_V k k3 _ 0 0 (by omega) W
    · have ht : tl b off cap = some ⟨b, off + 1, none⟩ := by rw [tl, if_neg h1]
      rw [ht] at rd
      by_cases k3 : k = 3
      · subst k3
        rw [if_pos rfl] at hR
        by_cases h40 : ts.length ≤ 40
        · rw [if_pos h40] at hR
          simp only [Prod.mk.injEq] at hR
          obtain ⟨rfl, rfl, rfl, rfl, rfl⟩ := hR
          refine (itemRead_yes 92 b off n cap hcap (by omega) 3 123 (.slice (some ⟨b, off + 1, none⟩) (n - 1) (cap - 1)) 3 0 0 ts c0 hk (by omega) hn hbt (fun W hW => ?_) (fun W hW => ?_)).mono ?_
          · have := read_text 92 (some ⟨b, off + 1, none⟩) (n - 1) (cap - 1) W
            rw [decide_eq_true (by omega)] at this
            exact this
          · have := itemOf_text (cap - 1) (rd.below hW (Nat.le_refl _)) (by omega)
            rw [show n - 1 = ts.length by omega] at this ⊢
            exact this
          · rintro e w' ⟨s, rfl, o, bb⟩
            exact ⟨_, _, rfl, by omega, hid (Same.refl _), o, bb⟩
        · rw [if_neg h40] at hR
          refine (itemRead_no 92 b off n cap hcap (by omega) 3 c0 hk (by omega) hn (fun W hW => ?_)).mono fun e w' hh => no e w' hh hR
          have := read_text 92 (some ⟨b, off + 1, none⟩) (n - 1) (cap - 1) W
          rw [decide_eq_false (by omega)] at this
          exact this.mono fun e w' ⟨h1, h2⟩ => ⟨_, h1, h2⟩
      · rw [if_neg k3] at hR
        by_cases h8 : ts.length = 8
        · rw [if_pos h8] at hR
          have hn8 : n - 1 = 8 := by omega
          by_cases k1 : k = 1
          · subst k1
            rw [if_pos rfl] at hR
            simp only [Prod.mk.injEq] at hR
            obtain ⟨rfl, rfl, rfl, rfl, rfl⟩ := hR
            refine (itemRead_yes 92 b off n cap hcap (by omega) 1 126 (.int .i64 ((low ts : Int) - 9223372036854775808)) 1 ((low ts : Int) - 9223372036854775808) 0 [] c0 hk (by omega) hn (fun i => by simp) (fun W hW => ?_) (fun W hW => ?_)).mono ?_
            · exact read_int 92 (cap - 1) (rd.below hW (Nat.le_refl _)) hn8
            · refine (itemOf_int _ W).mono ?_
              rintro e w' ⟨rfl, bb⟩
              exact ⟨_, rfl, World.ownsRow_nil _ _ _ _, bb⟩
            · rintro e w' ⟨s, rfl, o, bb⟩
              exact ⟨_, _, rfl, by omega, hid (Same.refl _), o, bb⟩
          · rw [if_neg k1] at hR
            by_cases k2 : k = 2
            · subst k2
              rw [if_pos rfl] at hR
              have hx : low ts < 18446744073709551616 := low_lt ts 0 (by omega)
              cases hd : unfV (low ts) with
              | none =>
                rw [hd] at hR
                refine (itemRead_no 92 b off n cap hcap (by omega) 2 c0 hk (by omega) hn (fun W hW => ?_)).mono fun e w' hh => no e w' hh hR
                refine (read_float_V (cap - 1) (rd.below hW (Nat.le_refl _)) hn8).mono ?_
                rintro e w' ⟨y, ok', rfl, hy, HD, h2⟩
                have := HD.out
                rw [hd] at this
                cases ok' with
                | false => exact ⟨_, rfl, h2⟩
                | true => cases this
              | some y0 =>
                rw [hd] at hR
                simp only [Prod.mk.injEq] at hR
                obtain ⟨rfl, rfl, rfl, rfl, rfl⟩ := hR
                have hy0 : y0 < 18446744073709551616 := by
                  unfold unfV at hd
                  split at hd
                  · cases hd; first | exact back_lt _ hx | exact hx
                  · cases hd
                refine (itemRead_yes 92 b off n cap hcap (by omega) 2 127 (.float .f64 y0) 2 0 y0 [] c0 hk (by omega) hn (fun i => by simp) (fun W hW => ?_) (fun W hW => ?_)).mono ?_
                · refine (read_float_V (cap - 1) (rd.below hW (Nat.le_refl _)) hn8).mono ?_
                  rintro e w' ⟨y, ok', rfl, hy, HD, h2⟩
                  have := HD.out
                  rw [hd] at this
                  cases ok' with
                  | false => cases this
                  | true => cases this; exact ⟨rfl, h2⟩
                · refine (itemOf_float _ W).mono ?_
                  rintro e w' ⟨rfl, bb⟩
                  exact ⟨_, rfl, World.ownsRow_nil _ _ _ _, bb⟩
                · rintro e w' ⟨s, rfl, o, bb⟩
                  exact ⟨_, _, rfl, hy0, hid (Same.refl _), o, bb⟩
            · rw [if_neg k2] at hR
              refine (itemRead_no 92 b off n cap hcap (by omega) k c0 hk (by omega) hn (fun W hW => ?_)).mono fun e w' hh => no e w' hh hR
              exact read_other_V k k1 k2 k3 (cap - 1) (rd.below hW (Nat.le_refl _)) hn8
        · rw [if_neg h8] at hR
          refine (itemRead_no 92 b off n cap hcap (by omega) k c0 hk (by omega) hn (fun W hW => ?_)).mono fun e w' hh => no e w' hh hR
          exact read_short_V k k3 _ (n - 1) (cap - 1) (by omega) W

set_option maxRecDepth 100000 in
set_option maxHeartbeats 1600000 in
theorem impl_ValueRead {ad : Option Addr} {n : Nat} (cap : Nat) (hcap : n ≤ cap) {zs : List Int} {w : World} (h : Reads w ad n zs) (hn : n ≤ 1048576) {RK RN : Int} {RF : Nat} {RZ : List Int} {ok : Bool} (hR : readR unfV zs = (RK, RN, RF, RZ, ok)) :
    Calls Try.prog 79 #[.slice ad n cap] w fun e w' => ∃ (f' : Nat) (v : Value), e = .returned (.tuple #[.agg #[.int .i64 RK, .int .i64 RN, .float .f64 f', v], .bool ok]) ∧ f' < 18446744073709551616 ∧ Hid (Same RF f') ∧ w'.ownsRow w.heap.size 5 1 v RZ.length (bys RZ) ∧ Below w.heap.size w w' := by
  have hbd := (readR_bd hR h.bd (by rw [h.len]; exact hn)).1
  have HR := hid hR
  have R := heap_alloc_new w (.cells #[.int .i64 0, .int .i64 0, .float .f64 0, .slice none 0 0] 41)
  have HB := hid (Below.alloc1 w (.cells #[.int .i64 0, .int .i64 0, .float .f64 0, .slice none 0 0] 41))
  have HZ := hid (alloc_size w (.cells #[.int .i64 0, .int .i64 0, .float .f64 0, .slice none 0 0] 41))
  have HH := hid (h.alloc (.cells #[.int .i64 0, .int .i64 0, .float .f64 0, .slice none 0 0] 41))
  have H0 := hid R
  clear R hR h
  go_enter Try.func79, Try.ntmps79
  go_wp2_with fail
  refine (itemRead_V cap hcap HH.out hn HR.out).mono ?_
  rintro e w1 ⟨f', v, rfl, hf', SM, o, b1⟩
  obtain ⟨ad1, cap1, rfl, r1, _⟩ := Reads.own o hbd
  have z := HZ.out
  have S1 := (b1.block w.heap.size (by omega)).trans H0.out
  have B1 := HB.out.trans (b1.mono HB.out.size)
  have T1 := hid S1
  rw [z] at o
  have O := hid o
  clear S1 b1 z HZ HB H0 o r1 HH HR
  go_wp2_with (first
    | (refine wpList_store_row rfl 41 (.tmp 2) (.tmp 6) rfl w.heap.size #[.int .i64 RK, .int .i64 RN, .float .f64 f', .slice ad1 RZ.length cap1] rfl rfl 41 _ T1.out ?s1 ?s2 ?s3 ?_))
  case s1 => exact size41
  case s2 => rfl
  case s3 => simp [Value.oneCell']
  refine bodyPost_ret (results_cell_tmp Try.results79 _ _ w.heap.size 41 _ (0, 0) _ rfl (setRow_heap _ _ _ _ _ _ T1.out) Try.underlying41 rfl size41) rfl ⟨_, _, rfl, hf', SM, owns_base (owns_at O.out fun k hk => ?_) (by omega), below_setRow B1 (by omega) _⟩
  rw [setRow_other _ _ _ _ (by omega)]

end Go.Proofs.Ytebhipicfgnajaa
