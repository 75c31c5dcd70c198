/- The contracts of the specification's DiskRead and of the program's. No conditions beside what is read. -/
import Derived.Test.YtnnnehjlegjejaaDoorLtd
namespace Go.Proofs.YtnnnehjlegjejaaDoor
open Go.RowKit

theorem lastW_from (ws : List (Int × List Int)) (at' : Int) (z : List Int) : ∀ (m k : Nat), k + m = ws.length → (∀ j, k ≤ j → j < ws.length → (ws.getD j w0).1 ≠ at') → lastW ws at' z = lastW (ws.take k) at' z
  | 0, k, h, _ => by rw [show k = ws.length by omega, lastW_all]
  | m + 1, k, h, hn => by
    rw [lastW_from ws at' z m (k + 1) (by omega) (fun j h1 h2 => hn j (by omega) h2), lastW_step ws at' z k (by omega), if_neg (hn k (Nat.le_refl _) (by omega))]
theorem lastW_none {ws : List (Int × List Int)} {at' : Int} (z : List Int) (h : ∀ j, j < ws.length → (ws.getD j w0).1 ≠ at') : lastW ws at' z = z := by
  rw [lastW_from ws at' z ws.length 0 (by omega) (fun j _ h2 => h j h2), lastW_zero]
theorem lastW_at {ws : List (Int × List Int)} {at' : Int} (z : List Int) (k : Nat) (hk : k < ws.length) (he : (ws.getD k w0).1 = at') (h : ∀ j, k < j → j < ws.length → (ws.getD j w0).1 ≠ at') : lastW ws at' z = (ws.getD k w0).2 := by
  rw [lastW_from ws at' z (ws.length - (k + 1)) (k + 1) (by omega) (fun j h1 h2 => h j (by omega) h2), lastW_step ws at' z k hk, if_pos he]

theorem ReadsD.bdS {w : World} {aS aW : Option Addr} {ss : List (List Int)} {ws : List (Int × List Int)} (h : ReadsD w aS aW ss ws) (i : Nat) (hi : i < ss.length) : ∀ j, 0 ≤ (ss.getD i []).getD j 0 ∧ (ss.getD i []).getD j 0 ≤ 255 := by
  rcases h.s.cells with h0 | ⟨b, off, _, hc⟩
  · omega
  · obtain ⟨_, _, a, c, _, r, _⟩ := hc i hi
    exact r.bd
theorem ReadsD.bdW {w : World} {aS aW : Option Addr} {ss : List (List Int)} {ws : List (Int × List Int)} (h : ReadsD w aS aW ss ws) (i : Nat) (hi : i < ws.length) : ∀ j, 0 ≤ (ws.getD i w0).2.getD j 0 ∧ (ws.getD i w0).2.getD j 0 ≤ 255 := by
  rcases h.w.cells with h0 | ⟨b, off, _, hc⟩
  · omega
  · obtain ⟨_, _, _, a, c, _, r, _⟩ := hc i hi
    exact r.bd
/-- What is read is a sector or what a write brings. -/
theorem lastW_mem (at' : Int) : ∀ (ws : List (Int × List Int)) (z : List Int), lastW ws at' z = z ∨ ∃ k, k < ws.length ∧ lastW ws at' z = (ws.getD k w0).2
  | [], z => .inl rfl
  | p :: ws, z => by
    have e : lastW (p :: ws) at' z = lastW ws at' (if p.1 = at' then p.2 else z) := rfl
    rw [e]
    by_cases hp : p.1 = at'
    · rw [if_pos hp]
      rcases lastW_mem at' ws p.2 with h | ⟨k, hk, h⟩
      · exact .inr ⟨0, by simp, by rw [h]; rfl⟩
      · exact .inr ⟨k + 1, by simpa using hk, by rw [h]; simp⟩
    · rw [if_neg hp]
      rcases lastW_mem at' ws z with h | ⟨k, hk, h⟩
      · exact .inl h
      · exact .inr ⟨k + 1, by simpa using hk, by rw [h]; simp⟩
theorem readR_bd {w : World} {aS aW : Option Addr} {ss : List (List Int)} {ws : List (Int × List Int)} {F : Int} {D : Bool} {at' : Int} {RZ : List Int} {ok : Bool} (hR : readR ⟨ss, ws, F, D⟩ at' = (RZ, ok)) (h : ReadsD w aS aW ss ws) : RZ.length ≤ 64 ∧ ∀ j, 0 ≤ RZ.getD j 0 ∧ RZ.getD j 0 ≤ 255 := by
  unfold readR at hR
  by_cases hc : okD ⟨ss, ws, F, D⟩ = true ∧ 0 ≤ at' ∧ at' < (ss.length : Int)
  · rw [if_pos hc] at hR
    obtain ⟨l1, l2, l3, l4⟩ := okD_len hc.1
    simp only [Prod.mk.injEq] at hR
    obtain ⟨rfl, _⟩ := hR
    rcases lastW_mem at' ws (ss.getD at'.toNat []) with e | ⟨k, hk, e⟩
    · rw [e]
      exact ⟨Nat.le_of_eq (l3 _ (by omega)), h.bdS _ (by omega)⟩
    · rw [e]
      exact ⟨Nat.le_of_eq (l4 _ hk), h.bdW _ hk⟩
  · rw [if_neg hc] at hR
    simp only [Prod.mk.injEq] at hR
    obtain ⟨rfl, _⟩ := hR
    exact ⟨by simp, fun j => by simp⟩
theorem readR_in {ss : List (List Int)} {ws : List (Int × List Int)} {F : Int} {D : Bool} {n : Nat} {RZ : List Int} {ok : Bool} (hR : readR ⟨ss, ws, F, D⟩ (n : Int) = (RZ, ok)) (hok : okD ⟨ss, ws, F, D⟩ = true) (hn : n < ss.length) : lastW ws n (ss.getD n []) = RZ ∧ ok = true := by
  unfold readR at hR
  rw [if_pos ⟨hok, by omega, by simp only; omega⟩] at hR
  simp only [Prod.mk.injEq, Int.toNat_natCast] at hR
  exact ⟨hR.1, hR.2.symm⟩
theorem readR_out {ss : List (List Int)} {ws : List (Int × List Int)} {F : Int} {D : Bool} {at' : Int} {RZ : List Int} {ok : Bool} (hR : readR ⟨ss, ws, F, D⟩ at' = (RZ, ok)) (hn : ¬ (okD ⟨ss, ws, F, D⟩ = true ∧ 0 ≤ at' ∧ at' < (ss.length : Int))) : RZ = [] ∧ ok = false := by
  unfold readR at hR
  rw [if_neg hn] at hR
  simp only [Prod.mk.injEq] at hR
  exact ⟨hR.1.symm, hR.2.symm⟩
theorem byI_of {w : World} {aW : Option Addr} {ws : List (Int × List Int)} {nW : Nat} (h : ReadsW w aW ws) (lW : ws.length = nW) : ∃ (da : Nat → Option Addr) (dl dc : Nat → Nat), ByI w w.heap.size aW nW (fun j => (ws.getD j w0).1) da dl dc ∧ ∀ j, j < nW → dl j = (ws.getD j w0).2.length ∧ Reads w (da j) (dl j) (ws.getD j w0).2 := by
  rcases h.cells with h0 | ⟨b, off, rfl, hc⟩
  · exact ⟨fun _ => none, fun _ => 0, fun _ => 0, ⟨.inl (by omega)⟩, fun j hj => by omega⟩
  · rcases Nat.eq_zero_or_pos nW with hz | hz
    · exact ⟨fun _ => none, fun _ => 0, fun _ => 0, ⟨.inl hz⟩, fun j hj => by omega⟩
    have hb := World.block_lt_of_cell? w _ (hc 0 (by omega)).1
    have : ∀ j, ∃ p : Option Addr × Nat, j < nW → w.cell? ⟨b, off + j * 2 + 1, none⟩ = some (.slice p.1 (ws.getD j w0).2.length p.2) ∧ Reads w p.1 (ws.getD j w0).2.length (ws.getD j w0).2 := fun j => by
      by_cases hj : j < nW
      · obtain ⟨_, v, hv, a, c, rfl, r, _⟩ := hc j (by omega)
        exact ⟨(a, c), fun _ => ⟨hv, r⟩⟩
      · exact ⟨(none, 0), fun h => absurd h hj⟩
    obtain ⟨f, hf⟩ := Classical.axiomOfChoice this
    exact ⟨fun j => (f j).1, fun j => (ws.getD j w0).2.length, fun j => (f j).2, ⟨.inr ⟨b, off, rfl, hb, fun j hj => ⟨(hc j (by omega)).1, (hf j hj).1⟩⟩⟩, fun j hj => ⟨rfl, (hf j hj).2⟩⟩

set_option maxRecDepth 100000 in
set_option maxHeartbeats 3200000 in
theorem impl_Read {aS aW : Option Addr} {nS nW : Nat} (cS cW : Nat) {ss : List (List Int)} {ws : List (Int × List Int)} {F : Int} {D : Bool} (at' : Int) {w : World} (h : ReadsD w aS aW ss ws) (lS : ss.length = nS) (lW : ws.length = nW)
    {RZ : List Int} {ok : Bool} (hR : readR ⟨ss, ws, F, D⟩ at' = (RZ, ok)) :
    Calls Tryd.prog 14 #[.agg #[.slice aS nS cS, .slice aW nW cW, .int .i64 F, .bool D], .int .i64 at'] w fun e w' => ∃ v, e = .returned (.tuple #[v, .bool ok]) ∧ w'.ownsRow w.heap.size 5 1 v RZ.length (bys RZ) ∧ Below w.heap.size w w' := by
  obtain ⟨i0, hi, hz0, hz1, hz2⟩ := info_parts Tryd.info5
  have B0 := Below.alloc1 w (.cells #[.slice aS nS cS, .slice aW nW cW, .int .i64 F, .bool D] 27)
  have X0 := heap_alloc_new w (.cells #[.slice aS nS cS, .slice aW nW cW, .int .i64 F, .bool D] 27)
  have XZ := alloc_size w (.cells #[.slice aS nS cS, .slice aW nW cW, .int .i64 F, .bool D] 27)
  have hO := fun (W : World) (r : ReadsD W aS aW ss ws) => impl_DiskOk cS cW F D r lS lW
  have R0 := hid (h.below B0 (Nat.le_refl _))
  by_cases hok : okD ⟨ss, ws, F, D⟩ = true
  · rw [hok] at hO
    obtain ⟨l1, l2, l3, l4⟩ := okD_len hok
    rw [lS] at l1 l3
    rw [lW] at l2 l4
    have HO := hid hO
    have HL3 := hid l3
    have HL4 := hid l4
    clear hO l3 l4
    by_cases h1 : 0 ≤ at'
    · by_cases h2 : at' < nS
      · obtain ⟨n, rfl⟩ : ∃ n : Nat, at' = n := ⟨at'.toNat, by omega⟩
        obtain ⟨hZ, rfl⟩ := readR_in hR hok (by omega)
        have HZZ := hid hZ
        have hn : n < nS := by omega
        clear hR hZ hok h
        go_enter Tryd.func14, Tryd.ntmps14
        go_wp2_with fail
        generalize w.alloc (.cells #[.slice aS nS cS, .slice aW nW cW, .int .i64 F, .bool D] 27) = W0 at *
        refine (HO.out _ R0.out).mono ?_
        rintro e w1 ⟨rfl, b1⟩
        have Y0 := (b1.block w.heap.size (by omega)).trans X0
        have HB1 := hid (B0.trans (b1.mono B0.size))
        have HR1 := hid (R0.out.below b1 (Nat.le_refl _))
        have HZ := hid (show w.heap.size + 1 ≤ w1.heap.size by have := b1.size; omega)
        obtain ⟨y0, y1, y2, y3⟩ : BoxD w1 w.heap.size aS nS cS aW nW cW F D := ⟨by rw [cell_of_row _ _ _ _ _ _ Y0]; rfl, by rw [cell_of_row _ _ _ _ _ _ Y0]; rfl, by rw [cell_of_row _ _ _ _ _ _ Y0]; rfl, by rw [cell_of_row _ _ _ _ _ _ Y0]; rfl⟩
        clear Y0 X0 XZ B0 b1 R0 HO
        go_wp2_with fail
        refine (impl_has w.heap.size n aS nS cS y0).mono ?_
        rintro e w2 ⟨rfl, rfl⟩
        rw [show inS n nS = true from decide_eq_true (by omega)]
        go_wp2_with fail
        obtain ⟨da, dl, dc, hI, hD⟩ := byI_of HR1.out.w lW
        rcases HR1.out.s.cells with h0 | ⟨b, off, hS, hc⟩
        · omega
        obtain ⟨v, hcx, a, c, rfl, hr, _, _⟩ := hc n (by omega)
        refine (impl_latest n hn (by omega) _ da dl dc (BoxD.mk y0 y1 y2 y3) hI hS hcx).mono ?_
        rintro e w3 ⟨hh, b3⟩
        obtain ⟨a9, c9, rfl, r9⟩ : ∃ a9 c9, e = .returned (.slice a9 RZ.length c9) ∧ Reads w3 a9 RZ.length RZ := by
          rcases hh with ⟨rfl, hne⟩ | ⟨k, hk, rfl, he, hne⟩
          · have e1 : RZ = ss.getD n [] := by rw [← HZZ.out]; exact lastW_none _ (fun j hj => hne j (by omega))
            rw [e1]
            exact ⟨_, _, rfl, hr.below b3 (Nat.le_refl _)⟩
          · have e1 : RZ = (ws.getD k w0).2 := by rw [← HZZ.out]; exact lastW_at _ k (by omega) he (fun j h1 h2 => hne j h1 (by omega))
            obtain ⟨e2, r⟩ := hD k hk
            rw [e1, ← e2]
            exact ⟨_, _, rfl, r.below b3 (Nat.le_refl _)⟩
        have HR9 := hid r9
        have HB3 := hid (HB1.out.trans (b3.mono HB1.out.size))
        have hl9 : RZ.length ≤ 64 := by
          rcases hh with ⟨e8, hne⟩ | ⟨k, hk, e8, he, hne⟩
          · rw [show RZ = ss.getD n [] by rw [← HZZ.out]; exact lastW_none _ (fun j hj => hne j (by omega)), HL3.out n hn]; omega
          · rw [show RZ = (ws.getD k w0).2 by rw [← HZZ.out]; exact lastW_at _ k (by omega) he (fun j h1 h2 => hne j h1 (by omega)), HL4.out k hk]; omega
        clear y0 y1 y2 y3 hI hD hc hcx hr hh b3 r9
        go_wp2_with fail
        refine (bytes_clone c9 HR9.out (by omega)).mono ?_
        rintro e w4 ⟨v, rfl, o4, b4⟩
        have O4 := hid o4
        have B4 := hid (HB3.out.trans (b4.mono HB3.out.size))
        clear o4 b4
        go_wp2_with fail
        go_ret2
        exact ⟨_, rfl, owns_lower O4.out HB3.out.size, B4.out⟩
      · obtain ⟨rfl, rfl⟩ := readR_out hR (fun hh => h2 (by have := hh.2.2; omega))
        have h3 : (nS : Int) ≤ at' := by omega
        clear hR hok h
        go_enter Tryd.func14, Tryd.ntmps14
        go_wp2_with fail
        generalize w.alloc (.cells #[.slice aS nS cS, .slice aW nW cW, .int .i64 F, .bool D] 27) = W0 at *
        refine (HO.out _ R0.out).mono ?_
        rintro e w1 ⟨rfl, b1⟩
        have Y0 := (b1.block w.heap.size (by omega)).trans X0
        have HB1 := hid (B0.trans (b1.mono B0.size))
        have HR1 := hid (R0.out.below b1 (Nat.le_refl _))
        have HZ := hid (show w.heap.size + 1 ≤ w1.heap.size by have := b1.size; omega)
        obtain ⟨y0, y1, y2, y3⟩ : BoxD w1 w.heap.size aS nS cS aW nW cW F D := ⟨by rw [cell_of_row _ _ _ _ _ _ Y0]; rfl, by rw [cell_of_row _ _ _ _ _ _ Y0]; rfl, by rw [cell_of_row _ _ _ _ _ _ Y0]; rfl, by rw [cell_of_row _ _ _ _ _ _ Y0]; rfl⟩
        clear Y0 X0 XZ B0 b1 R0 HO
        go_wp2_with fail
        refine (impl_has w.heap.size at' aS nS cS y0).mono ?_
        rintro e w2 ⟨rfl, rfl⟩
        rw [show inS at' nS = false from decide_eq_false (by omega)]
        go_wp2_with fail
        go_ret2
        exact ⟨_, rfl, World.ownsRow_nil _ _ _ _, HB1.out⟩
    · obtain ⟨rfl, rfl⟩ := readR_out hR (fun hh => h1 hh.2.1)
      have h3 : at' < 0 := by omega
      clear hR hok h
      go_enter Tryd.func14, Tryd.ntmps14
      go_wp2_with fail
      generalize w.alloc (.cells #[.slice aS nS cS, .slice aW nW cW, .int .i64 F, .bool D] 27) = W0 at *
      refine (HO.out _ R0.out).mono ?_
      rintro e w1 ⟨rfl, b1⟩
      have Y0 := (b1.block w.heap.size (by omega)).trans X0
      have HB1 := hid (B0.trans (b1.mono B0.size))
      have HR1 := hid (R0.out.below b1 (Nat.le_refl _))
      have HZ := hid (show w.heap.size + 1 ≤ w1.heap.size by have := b1.size; omega)
      obtain ⟨y0, y1, y2, y3⟩ : BoxD w1 w.heap.size aS nS cS aW nW cW F D := ⟨by rw [cell_of_row _ _ _ _ _ _ Y0]; rfl, by rw [cell_of_row _ _ _ _ _ _ Y0]; rfl, by rw [cell_of_row _ _ _ _ _ _ Y0]; rfl, by rw [cell_of_row _ _ _ _ _ _ Y0]; rfl⟩
      clear Y0 X0 XZ B0 b1 R0 HO
      go_wp2_with fail
      refine (impl_has w.heap.size at' aS nS cS y0).mono ?_
      rintro e w2 ⟨rfl, rfl⟩
      rw [show inS at' nS = false from decide_eq_false (by omega)]
      go_wp2_with fail
      go_ret2
      exact ⟨_, rfl, World.ownsRow_nil _ _ _ _, HB1.out⟩
  · obtain ⟨rfl, rfl⟩ := readR_out hR (fun hh => hok hh.1)
    rw [show okD ⟨ss, ws, F, D⟩ = false by simpa using hok] at hO
    have HO := hid hO
    clear hR hok h hO
    go_enter Tryd.func14, Tryd.ntmps14
    go_wp2_with fail
    generalize w.alloc (.cells #[.slice aS nS cS, .slice aW nW cW, .int .i64 F, .bool D] 27) = W0 at *
    refine (HO.out _ R0.out).mono ?_
    rintro e w1 ⟨rfl, b1⟩
    have Y0 := (b1.block w.heap.size (by omega)).trans X0
    have HB1 := hid (B0.trans (b1.mono B0.size))
    have HR1 := hid (R0.out.below b1 (Nat.le_refl _))
    have HZ := hid (show w.heap.size + 1 ≤ w1.heap.size by have := b1.size; omega)
    obtain ⟨y0, y1, y2, y3⟩ : BoxD w1 w.heap.size aS nS cS aW nW cW F D := ⟨by rw [cell_of_row _ _ _ _ _ _ Y0]; rfl, by rw [cell_of_row _ _ _ _ _ _ Y0]; rfl, by rw [cell_of_row _ _ _ _ _ _ Y0]; rfl, by rw [cell_of_row _ _ _ _ _ _ Y0]; rfl⟩
    clear Y0 X0 XZ B0 b1 R0 HO
    go_wp2_with fail
    go_ret2
    exact ⟨_, rfl, World.ownsRow_nil _ _ _ _, HB1.out⟩
end Go.Proofs.YtnnnehjlegjejaaDoor
