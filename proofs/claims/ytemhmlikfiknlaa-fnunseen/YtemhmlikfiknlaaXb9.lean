/- The contracts of the specification's SnapOk, Sees, Visible. Conditions: lists of at most 2^62 numbers. -/
import Derived.Test.YtemhmlikfiknlaaXa9
import Derived.Deep.QuietTactic
namespace Go.Proofs.Ytemhmlikfiknlaa
open Go.RowKit
set_option maxRecDepth 100000

theorem box2 (w : World) (S : Int) (v : Value) (t : TypeId) : (w.alloc (.cells #[.int .i64 S, v] t)).cell? ⟨w.heap.size, 0, none⟩ = some (.int .i64 S) ∧ (w.alloc (.cells #[.int .i64 S, v] t)).cell? ⟨w.heap.size, 1, none⟩ = some v := by
  constructor
  · rw [cell_of_row _ _ _ _ _ _ (heap_alloc_new w _)]; rfl
  · rw [cell_of_row _ _ _ _ _ _ (heap_alloc_new w _)]; rfl

set_option maxHeartbeats 1600000 in
theorem spec_SnapOk (S : Int) {ad : Option Addr} {n : Nat} (cap : Nat) {R : List Int} {w : World} (h : ReadsI w ad n R) (hn : n ≤ 4611686018427387904) :
    Calls Try.prog 19 #[.agg #[.int .i64 S, .slice ad n cap]] w fun e w' => e = .returned (.bool (snapOk S R)) ∧ Below w.heap.size w w' := by
  have hl := h.len
  have HB := hid (Below.alloc1 w (.cells #[.int .i64 S, .slice ad n cap] 32))
  have HR := hid (h.below HB.out (Nat.le_refl _))
  clear h
  by_cases hS : 1 ≤ S ∧ S ≤ 400
  · have hS1 := hS.1
    have hS2 := hS.2
    have HP := hid hS
    clear hS
    by_cases h4 : 400 < n
    · rw [snapOk_long (by omega)]
      have h4' : (400 : Int) < (n : Int) := by omega
      go_enter Try.func19, Try.ntmps19
      go_wp2_with fail
      refine (spec_in8 _ _ _ _).mono ?_
      rintro e w1 ⟨rfl, e1⟩
      subst w1
      rw [decide_eq_true HP.out]
      go_wp2_with fail
      go_ret
      exact ⟨rfl, HB.out⟩
    · have h4' : ¬ (400 : Int) < (n : Int) := by omega
      go_enter Try.func19, Try.ntmps19
      go_wp2_with fail
      refine (spec_in8 _ _ _ _).mono ?_
      rintro e w1 ⟨rfl, e1⟩
      subst w1
      rw [decide_eq_true HP.out]
      obtain ⟨hc0, hc1⟩ := box2 w S (.slice ad n cap) 32
      generalize w.alloc (.cells #[.int .i64 S, .slice ad n cap] 32) = W at *
      go_wp2_with fail
      clear h4 h4'
      go_loopw [3, 4] (fun l i wr => ∃ k m : Nat, k ≤ n ∧ i = .int .i64 k ∧ l = .int .i64 (lastAt R k) ∧ Hid (∀ j, j < k → lastAt R j < R.getD j 0 ∧ R.getD j 0 < S) ∧ wr = W.drewN m) (fun _ i _ => n - (intOf i).toNat)
      case atStart => exact ⟨0, 0, Nat.zero_le _, rfl, rfl, hid (fun j hj => by omega), rfl⟩
      case round =>
        obtain ⟨k, m, hk, rfl, rfl, HA, rfl⟩ := hrel
        by_cases hlt : k < n
        · have hlt' : (k : Int) < (n : Int) := by omega
          have hk0 : (0 : Int) ≤ (k : Int) := by omega
          have hbd := lastAt_bd (R := R) (k := k) (by omega) hS1 HA.out
          obtain ⟨b, off, rfl, hc⟩ := HR.out.at hlt
          have HS := hid (lastAt_succ R k)
          have HQ := hid (fun (q : ¬ (lastAt R k < R.getD k 0 ∧ R.getD k 0 < S)) => snapOk_bad (S := S) (R := R) (i := k) (by omega) q)
          have HN := hid (fun (q : lastAt R k < R.getD k 0 ∧ R.getD k 0 < S) (j : Nat) (hj : j < k + 1) => show lastAt R j < R.getD j 0 ∧ R.getD j 0 < S from by
            by_cases e : j = k
            · subst e; exact q
            · exact HA.out j (by omega))
          obtain ⟨z, hz⟩ : ∃ z, lastAt R k = z := ⟨_, rfl⟩
          obtain ⟨x, hx⟩ : ∃ x, R.getD k 0 = x := ⟨_, rfl⟩
          rw [hz] at hbd HQ HN ⊢
          rw [hx] at hc HS HQ HN
          clear hbd hz hx HA
          by_cases hb1 : x ≤ z
          · have q1 : decide (x ≤ z) = true := decide_eq_true hb1
            go_wp2_with fail
            go_quiet (fail)
            go_wp2_with fail
            go_ret
            rw [HQ.out (by omega)]
            exact ⟨rfl, HB.out.trans (((Still.drewN W _).trans (Still.drewN _ _)).below _)⟩
          · have q1 : decide (x ≤ z) = false := decide_eq_false hb1
            by_cases hb2 : S ≤ x
            · have q2 : decide (S ≤ x) = true := decide_eq_true hb2
              go_wp2_with fail
              go_quiet (fail)
              go_wp2_with fail
              go_ret
              rw [HQ.out (by omega)]
              exact ⟨rfl, HB.out.trans (((Still.drewN W _).trans (Still.drewN _ _)).below _)⟩
            · have q2 : decide (S ≤ x) = false := decide_eq_false hb2
              go_wp2_with fail
              go_quiet (fail)
              go_wp2_with fail
              go_roundw
              case rel => exact ⟨k + 1, _, by omega, by go_num, by rw [HS.out], hid (HN.out (by omega)), rfl⟩
              case measure => simp [intOf]; omega
        · have hlt' : ¬ (k : Int) < (n : Int) := by omega
          have hkn : k = n := by omega
          go_wp2_with fail
          go_ret
          rw [snapOk_yes HP.out (fun i hi => HA.out i (by omega))]
          exact ⟨rfl, HB.out.trans ((Still.drewN W _).below _)⟩
  · rw [snapOk_self hS]
    go_enter Try.func19, Try.ntmps19
    go_wp2_with fail
    refine (spec_in8 _ _ _ _).mono ?_
    rintro e w1 ⟨rfl, e1⟩
    subst w1
    rw [decide_eq_false hS]
    go_wp2_with fail
    go_ret
    exact ⟨rfl, HB.out⟩

theorem mem_at {R : List Int} {x : Int} {i : Nat} (hi : i < R.length) (h : R.getD i 0 = x) : R.contains x = true := by
  rw [List.contains_iff_mem, ← h, List.getD_eq_getElem?_getD, List.getElem?_eq_getElem hi]
  exact List.getElem_mem hi
theorem not_mem_at {R : List Int} {x : Int} (h : ∀ i, i < R.length → R.getD i 0 ≠ x) : R.contains x = false := by
  cases e : R.contains x with
  | false => rfl
  | true => obtain ⟨i, hi, e2⟩ := contains_at e; exact absurd e2 (h i hi)
theorem sees_no {S : Int} {R l : List Int} {x : Int} (h : snapOk S R = false) : seesB S R l x = false := by unfold seesB; rw [h]; rfl
theorem sees_in {S : Int} {R l : List Int} {x : Int} (hx : x ≠ S) (h : R.contains x = true) : seesB S R l x = false := by unfold seesB; rw [h, decide_eq_false hx]; simp
theorem sees_at {S : Int} {R l : List Int} {x : Int} (h : snapOk S R = true) (hx : x ≠ S) (hc : R.contains x = false) : seesB S R l x = (decide (1 ≤ x ∧ x < S) && decide (stOf l x = 1)) := by unfold seesB; rw [h, hc, decide_eq_false hx]; simp

set_option maxHeartbeats 1600000 in
theorem spec_Sees (S : Int) {ad : Option Addr} {n : Nat} (cap : Nat) {R : List Int} {w : World} (h : ReadsI w ad n R) (hn : n ≤ 4611686018427387904) {al : Option Addr} {nl : Nat} (cl : Nat) {l : List Int} (hL : ReadsI w al nl l) (x : Int) :
    Calls Try.prog 23 #[.agg #[.int .i64 S, .slice ad n cap], .slice al nl cl, .int .i64 x] w fun e w' => e = .returned (.bool (seesB S R l x)) ∧ Below w.heap.size w w' := by
  have hl := h.len
  have HB := hid (Below.alloc1 w (.cells #[.int .i64 S, .slice ad n cap] 32))
  have HR := hid (h.below HB.out (Nat.le_refl _))
  have HL := hid (hL.below HB.out (Nat.le_refl _))
  clear h hL
  obtain ⟨hc0, hc1⟩ := box2 w S (.slice ad n cap) 32
  have C0 := hid hc0
  have C1 := hid hc1
  have hz : w.heap.size < (w.alloc (.cells #[.int .i64 S, .slice ad n cap] 32)).heap.size := by rw [alloc_size]; omega
  have HZ := hid hz
  clear hc0 hc1 hz
  go_enter Try.func23, Try.ntmps23
  go_wp2_with fail
  refine (spec_SnapOk S cap HR.out hn).mono ?_
  rintro e W ⟨rfl, b⟩
  have hc0 := (b.cell (p := ⟨w.heap.size, 0, none⟩) HZ.out).trans C0.out
  have hc1 := (b.cell (p := ⟨w.heap.size, 1, none⟩) HZ.out).trans C1.out
  replace HR := hid (HR.out.below b (Nat.le_refl _))
  replace HL := hid (HL.out.below b (Nat.le_refl _))
  replace HB := hid (HB.out.trans (b.mono HB.out.size))
  clear b C0 C1 HZ
  cases hok : snapOk S R with
  | false =>
    go_wp2_with fail
    go_ret
    exact ⟨by rw [sees_no hok]; rfl, HB.out⟩
  | true =>
    have HK := hid hok
    clear hok
    by_cases hx : x = S
    · subst hx
      go_wp2_with fail
      go_ret
      exact ⟨by rw [sees_self HK.out]; rfl, HB.out⟩
    · have g1 : (x == S) = false := by simpa using hx
      have HX := hid hx
      clear hx
      go_wp2_with fail
      clear g1
      go_loopw [7] (fun i wr => ∃ k : Nat, k ≤ n ∧ i = .int .i64 k ∧ Hid (∀ j, j < k → R.getD j 0 ≠ x) ∧ wr = W) (fun i _ => n - (intOf i).toNat)
      case atStart => exact ⟨0, Nat.zero_le _, rfl, hid (fun j hj => by omega), rfl⟩
      case round =>
        obtain ⟨k, hk, rfl, HA, rfl⟩ := hrel
        by_cases hlt : k < n
        · have hlt' : (k : Int) < (n : Int) := by omega
          obtain ⟨b, off, rfl, hc⟩ := HR.out.at hlt
          have HI := hid (fun (q : R.getD k 0 = x) => sees_in (S := S) (l := l) HX.out (mem_at (R := R) (i := k) (by omega) q))
          have HN := hid (fun (q : R.getD k 0 ≠ x) (j : Nat) (hj : j < k + 1) => show R.getD j 0 ≠ x from by
            by_cases e : j = k
            · subst e; exact q
            · exact HA.out j (by omega))
          obtain ⟨y, hy⟩ : ∃ y, R.getD k 0 = y := ⟨_, rfl⟩
          rw [hy] at hc HI HN
          clear hy HA
          by_cases hb : y = x
          · subst hb
            go_wp2_with fail
            go_ret
            exact ⟨by rw [HI.out True.intro]; rfl, HB.out⟩
          · have g2 : (y == x) = false := by simpa using hb
            go_wp2_with fail
            go_roundw
            case rel => exact ⟨k + 1, by omega, by go_num, hid (HN.out hb), by trivial⟩
            case measure => simp [intOf]; omega
        · have hlt' : ¬ (k : Int) < (n : Int) := by omega
          have hkn : k = n := by omega
          have HE := hid (sees_at (l := l) HK.out HX.out (not_mem_at fun i hi => HA.out i (by omega)))
          have HT := hid (spec_StatusOf cl HL.out x)
          generalize stOf l x = t at *
          by_cases h1 : 1 ≤ x
          · by_cases h2 : x < S
            · rw [decide_eq_true ⟨h1, h2⟩, Bool.true_and] at HE
              go_wp2_with fail
              refine (HT.out).mono ?_
              rintro e w1 ⟨rfl, e1⟩
              subst w1
              by_cases h3 : t = 1
              · subst h3
                go_wp2_with fail
                go_ret
                exact ⟨by rw [HE.out]; simp, HB.out⟩
              · have g3 : (t == 1) = false := by simpa using h3
                rw [decide_eq_false h3] at HE
                go_wp2_with fail
                go_ret
                exact ⟨by rw [HE.out]; rfl, HB.out⟩
            · rw [decide_eq_false (by omega), Bool.false_and] at HE
              go_wp2_with fail
              go_ret
              exact ⟨by rw [HE.out]; simp, HB.out⟩
          · rw [decide_eq_false (by omega), Bool.false_and] at HE
            go_wp2_with fail
            go_ret
            exact ⟨by rw [HE.out]; simp, HB.out⟩

set_option maxHeartbeats 1600000 in
theorem spec_Visible (S : Int) {ad : Option Addr} {n : Nat} (cap : Nat) {R : List Int} {w : World} (h : ReadsI w ad n R) (hn : n ≤ 4611686018427387904) {al : Option Addr} {nl : Nat} (cl : Nat) {l : List Int} (hL : ReadsI w al nl l) (x y : Int) :
    Calls Try.prog 26 #[.agg #[.int .i64 S, .slice ad n cap], .slice al nl cl, .int .i64 x, .int .i64 y] w fun e w' => e = .returned (.bool (visB S R l x y)) ∧ Below w.heap.size w w' := by
  have HB := hid (Below.alloc1 w (.cells #[.int .i64 S, .slice ad n cap] 32))
  have HR := hid (h.below HB.out (Nat.le_refl _))
  have HL := hid (hL.below HB.out (Nat.le_refl _))
  clear h hL
  have R0 := hid (heap_alloc_new w (.cells #[.int .i64 S, .slice ad n cap] 32))
  have HZ := hid (show w.heap.size < (w.alloc (.cells #[.int .i64 S, .slice ad n cap] 32)).heap.size by rw [alloc_size]; omega)
  unfold visB
  go_enter Try.func26, Try.ntmps26
  go_wp2_with fail
  refine (spec_Sees S cap HR.out hn cl HL.out x).mono ?_
  rintro e W ⟨rfl, b⟩
  have R1 : W.heap[w.heap.size]? = _ := (b.block _ HZ.out).trans R0.out
  have hc0 : W.cell? ⟨w.heap.size, 0, none⟩ = some (.int .i64 S) := by rw [cell_of_row _ _ _ _ _ _ R1]; rfl
  have hc1 : W.cell? ⟨w.heap.size, 1, none⟩ = some (.slice ad n cap) := by rw [cell_of_row _ _ _ _ _ _ R1]; rfl
  replace HR := hid (HR.out.below b (Nat.le_refl _))
  replace HL := hid (HL.out.below b (Nat.le_refl _))
  replace HB := hid (HB.out.trans (b.mono HB.out.size))
  clear b R0 HZ R1
  cases hA : seesB S R l x with
  | false =>
    go_wp2_with fail
    go_ret
    exact ⟨by rw [hA]; rfl, HB.out⟩
  | true =>
    go_wp2_with fail
    refine (spec_Sees S cap HR.out hn cl HL.out y).mono ?_
    rintro e W2 ⟨rfl, b⟩
    replace HB := hid (HB.out.trans (b.mono HB.out.size))
    clear b
    go_wp2_with fail
    go_ret
    exact ⟨by rw [hA]; simp, HB.out⟩
end Go.Proofs.Ytemhmlikfiknlaa
