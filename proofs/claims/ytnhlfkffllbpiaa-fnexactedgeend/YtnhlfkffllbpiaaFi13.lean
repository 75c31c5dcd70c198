/- The contract of the program's activeAt. Conditions: at most 2^21 tracks, texts of at most 2^21 bytes. -/
import Derived.Test.YtnhlfkffllbpiaaFd13
import Derived.Test.YtnhlfkffllbpiaaEr13
namespace Go.Proofs.Ytnhlfkffllbpiaa
open Go.RowKit
set_option maxRecDepth 100000

set_option maxHeartbeats 3200000 in
theorem impl_active1 (xi be en : Int) (al inn ou : Bool) {rs : List (Im × Im)} {ws : List Im} (a1 : Option Addr) (n1 c1 : Nat) (a2 : Option Addr) (n2 c2 : Nat) (x : Int) (B : Nat) {w : World} (hx : w.cell? ⟨B, 0, none⟩ = some (.int .i64 x)) :
    Calls Try.prog 104 #[.agg #[.int .i64 xi, .int .i64 be, .int .i64 en, .bool al, .slice a1 n1 c1, .slice a2 n2 c2, .bool inn, .bool ou], .pointer (some ⟨B, 0, none⟩)] w fun e w' => e = .returned (.bool (actB ⟨xi, be, en, al, rs, ws, inn, ou⟩ x)) ∧ Below w.heap.size w w' := by
  have hB := Below.alloc1 w (.cells #[.int .i64 xi, .int .i64 be, .int .i64 en, .bool al, .slice a1 n1 c1, .slice a2 n2 c2, .bool inn, .bool ou] 46)
  have k := (hB.cell (p := ⟨B, 0, none⟩) (World.block_lt_of_cell? w _ hx)).trans hx
  have HB := hid hB
  have HA := hid (show actB ⟨xi, be, en, al, rs, ws, inn, ou⟩ x = (decide (xi = x) && decide (en = 0)) from rfl)
  clear hB hx
  go_enter Try.func104, Try.ntmps104
  by_cases h1 : xi = x
  · have q1 : (xi == x) = true := by simpa using h1
    have HV := hid (show actB ⟨xi, be, en, al, rs, ws, inn, ou⟩ x = decide (en = 0) by rw [HA.out, decide_eq_true h1, Bool.true_and])
    clear h1
    go_wp2_with fail
    refine (impl_isActive ⟨xi, be, en, al, rs, ws, inn, ou⟩ (.slice a1 n1 c1) (.slice a2 n2 c2) _).mono ?_
    rintro e w1 ⟨rfl, b1⟩
    replace HB := hid (HB.out.trans (b1.mono HB.out.size))
    clear b1
    go_wp2_with fail
    go_ret
    exact ⟨by rw [HV.out]; rfl, HB.out⟩
  · have q1 : (xi == x) = false := by simpa using h1
    have HV := hid (show actB ⟨xi, be, en, al, rs, ws, inn, ou⟩ x = false by rw [HA.out, decide_eq_false h1, Bool.false_and])
    clear h1
    go_wp2_with fail
    go_ret
    exact ⟨by rw [HV.out]; rfl, HB.out⟩

set_option maxHeartbeats 3200000 in
theorem index_active {a : Option Addr} {n : Nat} (c : Nat) {ts : List Tk} {w : World} (h : ReadsT w a ts) (hl : ts.length = n) (hn : n ≤ 2097152) (x : Int) (B : Nat) (hx : w.cell? ⟨B, 0, none⟩ = some (.int .i64 x)) :
    Calls Try.prog 103 #[.slice a n c, .func (.func 104) #[] #[.pointer (some ⟨B, 0, none⟩)]] w fun e w' => e = .returned (.int .i64 (atI ts x)) ∧ Below w.heap.size w w' := by
  have HRT := hid h
  have HL := hid hl
  have HX := hid hx
  have HBl := hid (World.block_lt_of_cell? w _ hx)
  clear h hl hx
  go_enter Try.func103, Try.ntmps103
  go_wp2_with fail
  go_loopw [8] (fun i wr => ∃ k : Nat, k ≤ n ∧ i = .int .i64 k ∧ Hid (∀ j, j < k → actB (ts.getD j tk0) x = false) ∧ Hid (Below w.heap.size w wr)) (fun i _ => n - (intOf i).toNat)
  case atStart => exact ⟨0, Nat.zero_le _, rfl, hid (fun i hi => by omega), hid (Below.refl _ _)⟩
  case round =>
    obtain ⟨k, hk, rfl, HNo, HW⟩ := hrel
    by_cases hlt : k < n
    · have hlt' : (k : Int) < (n : Int) := by omega
      have hk0 : (0 : Int) ≤ (k : Int) := by omega
      obtain ⟨b, off, a1, c1, a2, c2, rfl, bx0, r1, _, r2, _⟩ := HRT.out.at (k := k) (by have := HL.out; omega)
      obtain ⟨y0, y1, y2, y3, y4, y5, y6, y7⟩ := bx0.below HW.out (Nat.le_refl _)
      have HY := hid (fun (e : actB (ts.getD k tk0) x = true) => show atI ts x = (k : Int) by
        unfold atI atT
        rw [atF_at x ts 0 k (by have := HL.out; omega) HNo.out e, Nat.zero_add])
      have HNx := hid (fun (e : actB (ts.getD k tk0) x = false) j (hj : j < k + 1) => show actB (ts.getD j tk0) x = false from by
        by_cases hc : j < k
        · exact HNo.out j hc
        · have : j = k := by omega
          subst this; exact e)
      generalize ts.getD k tk0 = t at *
      obtain ⟨xi, be, en, al, rs, ws, inn, ou⟩ := t
      simp only at y0 y1 y2 y3 y4 y5 y6 y7
      generalize rs.length = n1 at *
      generalize ws.length = n2 at *
      clear bx0 r1 r2
      go_wp2_with fail
      clear y0 y1 y2 y3 y4 y5 y6 y7
      refine (impl_active1 xi be en al inn ou (rs := rs) (ws := ws) a1 n1 c1 a2 n2 c2 x B ((HW.out.cell (p := ⟨B, 0, none⟩) HBl.out).trans HX.out)).mono ?_
      rintro e w1 ⟨rfl, b1⟩
      have HW2 := hid (HW.out.trans (b1.mono HW.out.size))
      clear b1
      cases hin : actB ⟨xi, be, en, al, rs, ws, inn, ou⟩ x with
      | true =>
        have HT := hid (HY.out hin)
        clear hin
        go_wp2_with fail
        go_ret
        exact ⟨by rw [HT.out]; rfl, HW2.out⟩
      | false =>
        have HN2 := hid (HNx.out hin)
        clear hin
        go_wp2_with fail
        go_roundw
        case rel => exact ⟨k + 1, by omega, by go_num, HN2, HW2⟩
        case measure => simp [intOf]; omega
    · have hlt' : ¬ (k : Int) < (n : Int) := by omega
      have HE := hid (show atI ts x = -1 by
        unfold atI atT
        rw [atF_none x ts 0 (fun j hj => HNo.out j (by have := HL.out; omega))])
      go_wp2_with fail
      go_ret
      exact ⟨by rw [HE.out]; rfl, HW.out⟩

/-- What activeAt tells. -/
noncomputable def actP (ts : List Tk) (x : Int) : Int × Bool := if tracksB ts = true then (atI ts x, decide (0 ≤ atI ts x)) else (0, false)
set_option maxHeartbeats 3200000 in
theorem impl_activeAt {a : Option Addr} {n : Nat} (c : Nat) {ts : List Tk} {w : World} (h : ReadsT w a ts) (hl : ts.length = n) (hn : n ≤ 1048576) (hsm : smT ts) (hbd : bdTs ts) (x : Int) :
    Calls Try.prog 70 #[.slice a n c, .int .i64 x] w fun e w' => e = .returned (.tuple #[.int .i64 (actP ts x).1, .bool (actP ts x).2]) ∧ Below w.heap.size w w' := by
  have hB := Below.alloc1 w (.cells #[.int .i64 x] 3)
  have hR := heap_alloc_new w (.cells #[.int .i64 x] 3)
  have HK := hid (show (w.alloc (.cells #[.int .i64 x] 3)).cell? ⟨w.heap.size, 0, none⟩ = some (.int .i64 x) from cell_of_row _ _ 0 _ _ _ hR)
  have HRT := hid (h.below hB (Nat.le_refl _))
  have HB := hid hB
  clear hB h hR
  go_enter Try.func70, Try.ntmps70
  go_wp2_with fail
  refine (impl_TracksOk c HRT.out hl hsm hbd).mono ?_
  rintro e w1 ⟨rfl, b1⟩
  replace HRT := hid (HRT.out.below b1 (Nat.le_refl _))
  replace HK := hid ((b1.cell (p := ⟨w.heap.size, 0, none⟩) (World.block_lt_of_cell? _ _ HK.out)).trans HK.out)
  replace HB := hid (HB.out.trans (b1.mono HB.out.size))
  clear b1
  cases hv : tracksB ts with
  | false =>
    have HE := hid (show actP ts x = (0, false) by unfold actP; rw [hv]; rfl)
    clear hv
    go_wp2_with fail
    go_ret2
    exact ⟨by rw [HE.out]; rfl, HB.out⟩
  | true =>
    have HE := hid (show actP ts x = (atI ts x, decide (0 ≤ atI ts x)) by unfold actP; rw [hv]; rfl)
    clear hv
    go_wp2_with fail
    refine (index_active c HRT.out hl (by omega) x _ HK.out).mono ?_
    rintro e w2 ⟨rfl, b2⟩
    replace HB := hid (HB.out.trans (b2.mono HB.out.size))
    clear b2
    generalize atI ts x = I at *
    go_wp2_with fail
    go_ret2
    exact ⟨by rw [HE.out]; rfl, HB.out⟩
theorem actP_cases (ts : List Tk) (x : Int) : ((actP ts x).2 = false ∧ (tracksB ts = false ∨ atT ts x = none)) ∨ ∃ k : Nat, actP ts x = ((k : Int), true) ∧ tracksB ts = true ∧ atT ts x = some k := by
  unfold actP
  cases hv : tracksB ts with
  | false => exact .inl ⟨rfl, .inl rfl⟩
  | true =>
    rw [if_pos rfl]
    unfold atI
    cases ha : atT ts x with
    | none => exact .inl ⟨rfl, .inr rfl⟩
    | some k => exact .inr ⟨k, by simp, rfl, rfl⟩
end Go.Proofs.Ytnhlfkffllbpiaa
