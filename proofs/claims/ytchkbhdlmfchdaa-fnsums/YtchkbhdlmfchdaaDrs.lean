/- The contract of the draw of a list of floats: at most 1001 floats in new memory. For codes of at most 2^21 bytes. -/
import Derived.Test.YtchkbhdlmfchdaaDrl
import Derived.Test.YtchkbhdlmfchdaaFsi
namespace Go.Proofs.Ytchkbhdlmfchdaa
open Go.RowKit

theorem Try.info35 : (Try.prog.info? 35).map (fun i => (i.zero, i.size, i.bytes)) = some (some (.float .f64 0), 1, 8) := by kernel_rfl

theorem l1Size (ad : Option Addr) (n cap : Nat) (hn : n ≤ 2097152) (w : World) :
    Calls Try.prog 40 #[.slice ad n cap, .int .i64 40] w fun e w' => ∃ x : Int, e = .returned (.int .i64 x) ∧ 2 ≤ x ∧ x ≤ 40 ∧ w' = w := by
  have hn0 : (0 : Int) ≤ (n : Int) := by omega
  have hn1 : (n : Int) ≤ 2097152 := by omega
  by_cases h : (40 : Int) < 2 + (n : Int) / 20
  · have h0 : (0 : Int) ≤ (n : Int) / 20 := by omega
    have h1 : (n : Int) / 20 ≤ 2097152 := by omega
    go_enter Try.func40, Try.ntmps40
    go_wp2
    go_ret
    exact ⟨40, rfl, by omega, by omega, rfl⟩
  · have h0 : (0 : Int) ≤ (n : Int) / 20 := by omega
    have h1 : (n : Int) / 20 ≤ 2097152 := by omega
    go_enter Try.func40, Try.ntmps40
    go_wp2
    go_ret
    exact ⟨_, rfl, by omega, by omega, rfl⟩

/-- A quotient, whatever it is. -/
theorem quo_run (t : TypeId) (s x : Nat) (w : World) :
    ∃ y w', (binOp .quo t (.float .f64 s) (.float .f64 x)).run Try.prog w = .ok (.float .f64 y) w' ∧ y < 18446744073709551616 ∧ Hid (Still w w') := by
  cases hb : floatBits .quo .f64 s x with
  | none =>
    obtain ⟨n, h1, h2, h3⟩ := nan_run .quo t s x (by simp) hb w
    exact ⟨n, _, h1, h3, hid (Still.drew w)⟩
  | some r =>
    have hr : r < 18446744073709551616 := by have := floatBits_wf hb; simpa [Lit.wf] using this
    exact ⟨r, w, run_float_arith w .quo t .f64 s x r hb, hr, hid (Still.refl w)⟩

theorem fls_append (a b : List Nat) : fls (a ++ b) = fls a ++ fls b := by simp [fls]
theorem fbd_snoc {L : List Nat} {y : Nat} (hb : ∀ i, L.getD i 0 < 18446744073709551616) (h0 : y < 18446744073709551616) : ∀ i, (L ++ [y]).getD i 0 < 18446744073709551616 := by
  intro i
  by_cases h : i < L.length
  · have := hb i
    rwa [List.getD_eq_getElem?_getD, List.getElem?_append_left h, ← List.getD_eq_getElem?_getD]
  · rw [List.getD_eq_getElem?_getD, List.getElem?_append_right (by omega)]
    by_cases h2 : i - L.length = 0
    · rw [h2]; exact h0
    · rw [List.getElem?_eq_none (by simp; omega)]; simp

set_option maxRecDepth 100000 in
set_option maxHeartbeats 6400000 in
theorem drawFloatSum {w : World} {ad : Option Addr} {n : Nat} (cap : Nat) {zs : List Int} (h : Reads w ad n zs) (hn : n ≤ 2097152) :
    Calls Try.prog 23 #[.slice ad n cap] w fun e w' => ∃ (v : Value) (L : List Nat), e = .returned v ∧ w'.ownsRow w.heap.size 35 1 v L.length (fls L) ∧ (∀ i, L.getD i 0 < 18446744073709551616) ∧ L.length ≤ 1001 ∧ Below w.heap.size w w' := by
  obtain ⟨i0, hi, hz0, hz1, hz2⟩ := info_parts Try.info35
  go_enter Try.func23, Try.ntmps23
  go_wp2_with fail
  refine (l1New cap h hn).mono ?_
  rintro e w0 ⟨g, rfl, hg, c1, b1⟩
  have hgl := c1.lt
  go_wp2_with fail
  refine (l1Size ad n cap hn _).mono ?_
  rintro e w1 ⟨sz, rfl, hs0, hs1, rfl⟩
  go_wp2_with fail
  refine (l1Below c1 hn sz (by omega) (by omega)).mono ?_
  rintro e w2 ⟨q, rfl, hq0, hq1, c2, g2⟩
  go_wp2_with fail
  refine (l1Once c2 hn 40 (by omega) (by omega)).mono ?_
  rintro e w3 ⟨b3, rfl, c3, g3⟩
  have G3 := grown_trans g2 g3
  clear c1 c2 g2 g3
  cases b3
  · obtain ⟨X, rfl⟩ := Int.eq_ofNat_of_zero_le hq0
    have hX : X ≤ 1001 := by omega
    have c4 := c3
    have G4 := G3
    clear c3 G3
    go_wp2_with fail
    refine (l1Once c4 hn 2 (by omega) (by omega)).mono ?_
    rintro e w5 ⟨calm, rfl, c5, g5⟩
    have G5 := grown_trans G4 g5
    clear c4 G4 g5
    go_wp2_with fail
    go_loopw [4, 7, 8] (fun v i _ wr => ∃ (k : Nat) (L : List Nat), k ≤ X ∧ i = .int .i64 k ∧ L.length = k ∧ wr.ownsRow w1.heap.size 35 1 v k (fls L) ∧ (∀ i, L.getD i 0 < 18446744073709551616) ∧ Cur wr g ad n cap zs ∧ w1.grownBy wr (some g)) (fun _ i _ _ => X - (intOf i).toNat)
    case atStart => exact ⟨0, [], by omega, rfl, rfl, World.ownsRow_nil _ _ _ _, by simp, c5, G5⟩
    case round =>
      obtain ⟨k, L, hk, rfl, hL, hown, hbd, cr, gr⟩ := hrel
      have hk0 : (0 : Int) ≤ (k : Int) := by omega
      by_cases hlt : k < X
      · have hlt' : (k : Int) < (X : Int) := by omega
        clear c5 G5
        go_wp2_with fail
        refine (l1Below cr hn 4000 (by omega) (by omega)).mono ?_
        rintro e w6 ⟨z, rfl, hz0', hz1', c6, g6⟩
        obtain ⟨y, w7, hrun, hy, st⟩ := quo_run 35 (floatOfInt .f64 (z - 2000)) 4625196817309499392 w6
        have c7 := c6.still st.out
        have g7 := grown_still g6 st.out
        clear c6 g6
        cases calm
        · go_wp2_with fail
          refine (l2float c7 hn).mono ?_
          rintro e w8 ⟨f, rfl, hf, c8, g8⟩
          have g9 := grown_trans g7 g8
          clear c7 g7 g8 hrun
          have o2 := hown.kept g9 (by
            cases hv : u4.ownBlock with
            | none => exact .inl rfl
            | some r => exact .inr (by have := (hown.lt r hv).1; simp; omega))
          have z2 : w1.heap.size ≤ w8.heap.size := Nat.le_trans gr.size g9.size
          have G2 := grown_trans gr g9
          clear hown cr gr g9
          go_wp2_with (at_builtin; refine wpList_append_own _ rfl _ _ 44 rfl w1.heap.size 35 i0 (.float .f64 0) 1 8 Try.underlying44 hi hz0 hz1 hz2 rfl (by decide) _ _ _ rfl (o2.alloc _) ⟨w8.heap.size, 0, none⟩ 1 1 [.float .f64 f] rfl rfl (cell_one_new _ _ _) ?c2 ?c3 ?c4 ?c5 ?_)
          case c2 => intro u hu; simp at hu; subst hu; rfl
          case c3 => unfold maxLen; omega
          case c4 => omega
          case c5 => simp; omega
          intro v' w9 o3 g3 _
          have G3 : w1.grownBy w9 (some g) := grown_new (grown_new G2 (World.grownBy_alloc w8 _ none) (fun r hr => by cases hr)) g3 (fun r hr => (o2.lt r hr).1)
          have c3 := (c8.alloc (.cells #[.float .f64 f] 35)).other g3 (fun r hr => by have := (o2.lt r hr).1; omega)
          have O3 := hid o3
          clear g3 o3 o2 c8 G2
          go_wp2_with fail
          go_roundw
          case rel => exact ⟨k + 1, L ++ [f], by omega, by go_num, by rw [List.length_append, hL]; rfl, by rw [fls_append]; exact O3.out, fbd_snoc hbd hf, c3, G3⟩
          case measure => simp [intOf]; omega
        · go_wp2_with fail
          refine (l1Once c7 hn 9 (by omega) (by omega)).mono ?_
          rintro e w8 ⟨b2, rfl, c8, g8⟩
          have g9 := grown_trans g7 g8
          clear c7 g7 g8 hrun
          cases b2
          · have o2 := hown.kept g9 (by
              cases hv : u4.ownBlock with
              | none => exact .inl rfl
              | some r => exact .inr (by have := (hown.lt r hv).1; simp; omega))
            have z2 : w1.heap.size ≤ w8.heap.size := Nat.le_trans gr.size g9.size
            have G2 := grown_trans gr g9
            clear hown cr gr g9
            go_wp2_with (at_builtin; refine wpList_append_own _ rfl _ _ 44 rfl w1.heap.size 35 i0 (.float .f64 0) 1 8 Try.underlying44 hi hz0 hz1 hz2 rfl (by decide) _ _ _ rfl (o2.alloc _) ⟨w8.heap.size, 0, none⟩ 1 1 [.float .f64 y] rfl rfl (cell_one_new _ _ _) ?c2 ?c3 ?c4 ?c5 ?_)
            case c2 => intro u hu; simp at hu; subst hu; rfl
            case c3 => unfold maxLen; omega
            case c4 => omega
            case c5 => simp; omega
            intro v' w9 o3 g3 _
            have G3 : w1.grownBy w9 (some g) := grown_new (grown_new G2 (World.grownBy_alloc w8 _ none) (fun r hr => by cases hr)) g3 (fun r hr => (o2.lt r hr).1)
            have c3 := (c8.alloc (.cells #[.float .f64 y] 35)).other g3 (fun r hr => by have := (o2.lt r hr).1; omega)
            have O3 := hid o3
            clear g3 o3 o2 c8 G2
            go_wp2_with fail
            go_roundw
            case rel => exact ⟨k + 1, L ++ [y], by omega, by go_num, by rw [List.length_append, hL]; rfl, by rw [fls_append]; exact O3.out, fbd_snoc hbd hy, c3, G3⟩
            case measure => simp [intOf]; omega
          · go_wp2_with fail
            refine (l2float c8 hn).mono ?_
            rintro e w10 ⟨f, rfl, hf, c10, g10⟩
            have g11 := grown_trans g9 g10
            clear c8 g9 g10
            have o2 := hown.kept g11 (by
              cases hv : u4.ownBlock with
              | none => exact .inl rfl
              | some r => exact .inr (by have := (hown.lt r hv).1; simp; omega))
            have z2 : w1.heap.size ≤ w10.heap.size := Nat.le_trans gr.size g11.size
            have G2 := grown_trans gr g11
            clear hown cr gr g11
            go_wp2_with (at_builtin; refine wpList_append_own _ rfl _ _ 44 rfl w1.heap.size 35 i0 (.float .f64 0) 1 8 Try.underlying44 hi hz0 hz1 hz2 rfl (by decide) _ _ _ rfl (o2.alloc _) ⟨w10.heap.size, 0, none⟩ 1 1 [.float .f64 f] rfl rfl (cell_one_new _ _ _) ?c2 ?c3 ?c4 ?c5 ?_)
            case c2 => intro u hu; simp at hu; subst hu; rfl
            case c3 => unfold maxLen; omega
            case c4 => omega
            case c5 => simp; omega
            intro v' w9 o3 g3 _
            have G3 : w1.grownBy w9 (some g) := grown_new (grown_new G2 (World.grownBy_alloc w10 _ none) (fun r hr => by cases hr)) g3 (fun r hr => (o2.lt r hr).1)
            have c3 := (c10.alloc (.cells #[.float .f64 f] 35)).other g3 (fun r hr => by have := (o2.lt r hr).1; omega)
            have O3 := hid o3
            clear g3 o3 o2 c10 G2
            go_wp2_with fail
            go_roundw
            case rel => exact ⟨k + 1, L ++ [f], by omega, by go_num, by rw [List.length_append, hL]; rfl, by rw [fls_append]; exact O3.out, fbd_snoc hbd hf, c3, G3⟩
            case measure => simp [intOf]; omega
      · have hge : ¬ (k : Int) < (X : Int) := by omega
        go_wp2_with fail
        go_ret
        exact ⟨_, rfl, L, own_base (by rw [hL]; exact hown) (by have := b1.size; exact this), hbd, by omega, b1.grown gr b1.size (fun k hk => by cases hk; exact hg)⟩
  · go_wp2_with fail
    refine (l1Below c3 hn 2 (by omega) (by omega)).mono ?_
    rintro e w4 ⟨t, rfl, ht0, ht1, c4, g4⟩
    obtain ⟨X, hX'⟩ := Int.eq_ofNat_of_zero_le (show 0 ≤ 1000 + t by omega)
    have hX : X ≤ 1001 := by omega
    have G4 := grown_trans G3 g4
    clear c3 G3 g4
    go_wp2_with fail
    refine (l1Once c4 hn 2 (by omega) (by omega)).mono ?_
    rintro e w5 ⟨calm, rfl, c5, g5⟩
    have G5 := grown_trans G4 g5
    clear c4 G4 g5
    go_wp2_with fail
    go_loopw [4, 7, 8] (fun v i _ wr => ∃ (k : Nat) (L : List Nat), k ≤ X ∧ i = .int .i64 k ∧ L.length = k ∧ wr.ownsRow w1.heap.size 35 1 v k (fls L) ∧ (∀ i, L.getD i 0 < 18446744073709551616) ∧ Cur wr g ad n cap zs ∧ w1.grownBy wr (some g)) (fun _ i _ _ => X - (intOf i).toNat)
    case atStart => exact ⟨0, [], by omega, rfl, rfl, World.ownsRow_nil _ _ _ _, by simp, c5, G5⟩
    case round =>
      obtain ⟨k, L, hk, rfl, hL, hown, hbd, cr, gr⟩ := hrel
      have hk0 : (0 : Int) ≤ (k : Int) := by omega
      by_cases hlt : k < X
      · have hlt' : (k : Int) < (X : Int) := by omega
        clear c5 G5
        go_wp2_with fail
        refine (l1Below cr hn 4000 (by omega) (by omega)).mono ?_
        rintro e w6 ⟨z, rfl, hz0', hz1', c6, g6⟩
        obtain ⟨y, w7, hrun, hy, st⟩ := quo_run 35 (floatOfInt .f64 (z - 2000)) 4625196817309499392 w6
        have c7 := c6.still st.out
        have g7 := grown_still g6 st.out
        clear c6 g6
        cases calm
        · go_wp2_with fail
          refine (l2float c7 hn).mono ?_
          rintro e w8 ⟨f, rfl, hf, c8, g8⟩
          have g9 := grown_trans g7 g8
          clear c7 g7 g8 hrun
          have o2 := hown.kept g9 (by
            cases hv : u4.ownBlock with
            | none => exact .inl rfl
            | some r => exact .inr (by have := (hown.lt r hv).1; simp; omega))
          have z2 : w1.heap.size ≤ w8.heap.size := Nat.le_trans gr.size g9.size
          have G2 := grown_trans gr g9
          clear hown cr gr g9
          go_wp2_with (at_builtin; refine wpList_append_own _ rfl _ _ 44 rfl w1.heap.size 35 i0 (.float .f64 0) 1 8 Try.underlying44 hi hz0 hz1 hz2 rfl (by decide) _ _ _ rfl (o2.alloc _) ⟨w8.heap.size, 0, none⟩ 1 1 [.float .f64 f] rfl rfl (cell_one_new _ _ _) ?c2 ?c3 ?c4 ?c5 ?_)
          case c2 => intro u hu; simp at hu; subst hu; rfl
          case c3 => unfold maxLen; omega
          case c4 => omega
          case c5 => simp; omega
          intro v' w9 o3 g3 _
          have G3 : w1.grownBy w9 (some g) := grown_new (grown_new G2 (World.grownBy_alloc w8 _ none) (fun r hr => by cases hr)) g3 (fun r hr => (o2.lt r hr).1)
          have c3 := (c8.alloc (.cells #[.float .f64 f] 35)).other g3 (fun r hr => by have := (o2.lt r hr).1; omega)
          have O3 := hid o3
          clear g3 o3 o2 c8 G2
          go_wp2_with fail
          go_roundw
          case rel => exact ⟨k + 1, L ++ [f], by omega, by go_num, by rw [List.length_append, hL]; rfl, by rw [fls_append]; exact O3.out, fbd_snoc hbd hf, c3, G3⟩
          case measure => simp [intOf]; omega
        · go_wp2_with fail
          refine (l1Once c7 hn 9 (by omega) (by omega)).mono ?_
          rintro e w8 ⟨b2, rfl, c8, g8⟩
          have g9 := grown_trans g7 g8
          clear c7 g7 g8 hrun
          cases b2
          · have o2 := hown.kept g9 (by
              cases hv : u4.ownBlock with
              | none => exact .inl rfl
              | some r => exact .inr (by have := (hown.lt r hv).1; simp; omega))
            have z2 : w1.heap.size ≤ w8.heap.size := Nat.le_trans gr.size g9.size
            have G2 := grown_trans gr g9
            clear hown cr gr g9
            go_wp2_with (at_builtin; refine wpList_append_own _ rfl _ _ 44 rfl w1.heap.size 35 i0 (.float .f64 0) 1 8 Try.underlying44 hi hz0 hz1 hz2 rfl (by decide) _ _ _ rfl (o2.alloc _) ⟨w8.heap.size, 0, none⟩ 1 1 [.float .f64 y] rfl rfl (cell_one_new _ _ _) ?c2 ?c3 ?c4 ?c5 ?_)
            case c2 => intro u hu; simp at hu; subst hu; rfl
            case c3 => unfold maxLen; omega
            case c4 => omega
            case c5 => simp; omega
            intro v' w9 o3 g3 _
            have G3 : w1.grownBy w9 (some g) := grown_new (grown_new G2 (World.grownBy_alloc w8 _ none) (fun r hr => by cases hr)) g3 (fun r hr => (o2.lt r hr).1)
            have c3 := (c8.alloc (.cells #[.float .f64 y] 35)).other g3 (fun r hr => by have := (o2.lt r hr).1; omega)
            have O3 := hid o3
            clear g3 o3 o2 c8 G2
            go_wp2_with fail
            go_roundw
            case rel => exact ⟨k + 1, L ++ [y], by omega, by go_num, by rw [List.length_append, hL]; rfl, by rw [fls_append]; exact O3.out, fbd_snoc hbd hy, c3, G3⟩
            case measure => simp [intOf]; omega
          · go_wp2_with fail
            refine (l2float c8 hn).mono ?_
            rintro e w10 ⟨f, rfl, hf, c10, g10⟩
            have g11 := grown_trans g9 g10
            clear c8 g9 g10
            have o2 := hown.kept g11 (by
              cases hv : u4.ownBlock with
              | none => exact .inl rfl
              | some r => exact .inr (by have := (hown.lt r hv).1; simp; omega))
            have z2 : w1.heap.size ≤ w10.heap.size := Nat.le_trans gr.size g11.size
            have G2 := grown_trans gr g11
            clear hown cr gr g11
            go_wp2_with (at_builtin; refine wpList_append_own _ rfl _ _ 44 rfl w1.heap.size 35 i0 (.float .f64 0) 1 8 Try.underlying44 hi hz0 hz1 hz2 rfl (by decide) _ _ _ rfl (o2.alloc _) ⟨w10.heap.size, 0, none⟩ 1 1 [.float .f64 f] rfl rfl (cell_one_new _ _ _) ?c2 ?c3 ?c4 ?c5 ?_)
            case c2 => intro u hu; simp at hu; subst hu; rfl
            case c3 => unfold maxLen; omega
            case c4 => omega
            case c5 => simp; omega
            intro v' w9 o3 g3 _
            have G3 : w1.grownBy w9 (some g) := grown_new (grown_new G2 (World.grownBy_alloc w10 _ none) (fun r hr => by cases hr)) g3 (fun r hr => (o2.lt r hr).1)
            have c3 := (c10.alloc (.cells #[.float .f64 f] 35)).other g3 (fun r hr => by have := (o2.lt r hr).1; omega)
            have O3 := hid o3
            clear g3 o3 o2 c10 G2
            go_wp2_with fail
            go_roundw
            case rel => exact ⟨k + 1, L ++ [f], by omega, by go_num, by rw [List.length_append, hL]; rfl, by rw [fls_append]; exact O3.out, fbd_snoc hbd hf, c3, G3⟩
            case measure => simp [intOf]; omega
      · have hge : ¬ (k : Int) < (X : Int) := by omega
        go_wp2_with fail
        go_ret
        exact ⟨_, rfl, L, own_base (by rw [hL]; exact hown) (by have := b1.size; exact this), hbd, by omega, b1.grown gr b1.size (fun k hk => by cases hk; exact hg)⟩
end Go.Proofs.Ytchkbhdlmfchdaa
