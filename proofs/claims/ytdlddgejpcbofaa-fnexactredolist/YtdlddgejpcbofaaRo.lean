/- The contracts of within, l5in, hasXid, hasPage, hasSlot and of both RecordOk. No conditions beside a length below 2^63. -/
import Derived.Test.YtdlddgejpcbofaaRt
import Derived.Test.YtdlddgejpcbofaaRp
namespace Go.Proofs.Ytdlddgejpcbofaa
open Go.RowKit
set_option maxRecDepth 100000

def wi (n lo hi : Int) : Bool := decide (lo ≤ n ∧ n ≤ hi)
theorem wi_t {n lo hi : Int} (h : lo ≤ n ∧ n ≤ hi) : wi n lo hi = true := decide_eq_true h
theorem wi_f {n lo hi : Int} (h : ¬ (lo ≤ n ∧ n ≤ hi)) : wi n lo hi = false := decide_eq_false h
theorem wi_of {n lo hi : Int} (h : wi n lo hi = true) : lo ≤ n ∧ n ≤ hi := of_decide_eq_true h
theorem wi_no {n lo hi : Int} (h : wi n lo hi = false) : ¬ (lo ≤ n ∧ n ≤ hi) := of_decide_eq_false h

theorem impl_within (n lo hi : Int) (w : World) : Calls Try.prog 20 #[.int .i64 n, .int .i64 lo, .int .i64 hi] w fun e w' => e = .returned (.bool (wi n lo hi)) ∧ w' = w := by
  by_cases h1 : lo ≤ n
  · by_cases h2 : n ≤ hi
    · rw [wi_t ⟨h1, h2⟩]
      go_enter Try.func20, Try.ntmps20
      go_wp2
      go_ret
      exact ⟨rfl, rfl⟩
    · rw [wi_f (by omega)]
      go_enter Try.func20, Try.ntmps20
      go_wp2
      go_ret
      exact ⟨rfl, rfl⟩
  · rw [wi_f (by omega)]
    go_enter Try.func20, Try.ntmps20
    go_wp2
    go_ret
    exact ⟨rfl, rfl⟩

theorem spec_in (n lo hi : Int) (w : World) : Calls Try.prog 15 #[.int .i64 n, .int .i64 lo, .int .i64 hi] w fun e w' => e = .returned (.bool (wi n lo hi)) ∧ w' = w := by
  by_cases h1 : lo ≤ n
  · by_cases h2 : n ≤ hi
    · rw [wi_t ⟨h1, h2⟩]
      go_enter Try.func15, Try.ntmps15
      go_wp2
      go_ret
      exact ⟨rfl, rfl⟩
    · rw [wi_f (by omega)]
      go_enter Try.func15, Try.ntmps15
      go_wp2
      go_ret
      exact ⟨rfl, rfl⟩
  · rw [wi_f (by omega)]
    go_enter Try.func15, Try.ntmps15
    go_wp2
    go_ret
    exact ⟨rfl, rfl⟩

theorem hasXid (K L X P S : Int) (ad : Option Addr) (n cap : Nat) (w : World) : Calls Try.prog 35 #[.agg #[.int .i64 K, .int .i64 L, .int .i64 X, .int .i64 P, .int .i64 S, .slice ad n cap]] w fun e w' => e = .returned (.bool (wi X 1 400)) ∧ Below w.heap.size w w' := by
  have HA := hid (Below.alloc1 w (.cells #[.int .i64 K, .int .i64 L, .int .i64 X, .int .i64 P, .int .i64 S, .slice ad n cap] 41))
  go_enter Try.func35, Try.ntmps35
  go_wp2_with fail
  refine (impl_within X 1 400 _).mono ?_
  rintro e w1 ⟨rfl, rfl⟩
  go_wp2_with fail
  go_ret
  exact ⟨rfl, HA.out⟩

theorem hasPage (K L X P S : Int) (ad : Option Addr) (n cap : Nat) (w : World) : Calls Try.prog 34 #[.agg #[.int .i64 K, .int .i64 L, .int .i64 X, .int .i64 P, .int .i64 S, .slice ad n cap]] w fun e w' => e = .returned (.bool (wi P 0 15)) ∧ Below w.heap.size w w' := by
  have HA := hid (Below.alloc1 w (.cells #[.int .i64 K, .int .i64 L, .int .i64 X, .int .i64 P, .int .i64 S, .slice ad n cap] 41))
  go_enter Try.func34, Try.ntmps34
  go_wp2_with fail
  refine (impl_within P 0 15 _).mono ?_
  rintro e w1 ⟨rfl, rfl⟩
  go_wp2_with fail
  go_ret
  exact ⟨rfl, HA.out⟩

theorem hasSlot (K L X P S : Int) (ad : Option Addr) (n cap : Nat) (w : World) : Calls Try.prog 36 #[.agg #[.int .i64 K, .int .i64 L, .int .i64 X, .int .i64 P, .int .i64 S, .slice ad n cap]] w fun e w' => e = .returned (.bool (wi P 0 15 && wi S 0 15)) ∧ Below w.heap.size w w' := by
  have HA := hid (Below.alloc1 w (.cells #[.int .i64 K, .int .i64 L, .int .i64 X, .int .i64 P, .int .i64 S, .slice ad n cap] 41))
  have HX := hid (BoxR.new w K L X P S ad n cap 41)
  go_enter Try.func36, Try.ntmps36
  go_wp2_with fail
  refine (hasPage K L X P S ad n cap _).mono ?_
  rintro e w1 ⟨rfl, b⟩
  replace HX := hid (HX.out.below b (Nat.le_refl _))
  replace HA := hid (HA.out.trans (b.mono HA.out.size))
  clear b
  obtain ⟨c0, c1, c2, c3, c4, c5⟩ := HX.out
  obtain ⟨bP, hP⟩ : ∃ b, wi P 0 15 = b := ⟨_, rfl⟩
  rw [hP]
  have HP := hid hP
  clear hP
  cases bP
  · go_wp2_with fail
    go_ret
    exact ⟨congrArg (fun b => Ending.returned (.bool b)) (show false = (wi P 0 15 && wi S 0 15) by rw [HP.out]; rfl), HA.out⟩
  · go_wp2_with fail
    refine (impl_within S 0 15 _).mono ?_
    rintro e w2 ⟨rfl, rfl⟩
    go_wp2_with fail
    go_ret
    exact ⟨congrArg (fun b => Ending.returned (.bool b)) (show wi S 0 15 = (wi P 0 15 && wi S 0 15) by rw [HP.out]; rfl), HA.out⟩

set_option maxHeartbeats 6400000 in
theorem spec_RecordOk (K L X P S : Int) (ad : Option Addr) (n cap : Nat) (w : World) : Calls Try.prog 16 #[.agg #[.int .i64 K, .int .i64 L, .int .i64 X, .int .i64 P, .int .i64 S, .slice ad n cap]] w fun e w' => e = .returned (.bool (okRn K L X P S n)) ∧ Below w.heap.size w w' := by
  have HA := hid (Below.alloc1 w (.cells #[.int .i64 K, .int .i64 L, .int .i64 X, .int .i64 P, .int .i64 S, .slice ad n cap] 41))
  go_enter Try.func16, Try.ntmps16
  go_wp2_with fail
  refine (spec_in L 1 1000000 _).mono ?_
  rintro e w1 ⟨rfl, rfl⟩
  obtain ⟨bL, hL⟩ : ∃ b, wi L 1 1000000 = b := ⟨_, rfl⟩
  rw [hL]
  cases bL
  · go_wp2_with fail
    go_ret
    exact ⟨congrArg (fun b => Ending.returned (.bool b)) (show okRn K L X P S n = false from decide_eq_false (by have := wi_no hL; omega)).symm, HA.out⟩
  go_wp2_with fail
  refine (spec_in P 0 15 _).mono ?_
  rintro e w1 ⟨rfl, rfl⟩
  go_wp2_with fail
  refine (spec_in S 0 15 _).mono ?_
  rintro e w1 ⟨rfl, rfl⟩
  go_wp2_with fail
  refine (spec_in X 1 400 _).mono ?_
  rintro e w1 ⟨rfl, rfl⟩
  obtain ⟨bP, hP⟩ : ∃ b, wi P 0 15 = b := ⟨_, rfl⟩
  obtain ⟨bS, hS⟩ : ∃ b, wi S 0 15 = b := ⟨_, rfl⟩
  obtain ⟨bX, hX⟩ : ∃ b, wi X 1 400 = b := ⟨_, rfl⟩
  rw [hP, hS, hX]
  have HL := hid (wi_of hL)
  have HP := hid hP
  have HS := hid hS
  have HX := hid hX
  clear hL hP hS hX
  by_cases k1 : K = 1
  · subst k1
    cases bP
    · go_wp2_with fail
      go_ret
      exact ⟨congrArg (fun b => Ending.returned (.bool b)) (show okRn 1 L X P S n = false from decide_eq_false (by have := wi_no HP.out; have := HL.out; omega)).symm, HA.out⟩
    by_cases h3 : (n : Int) = 256
    rotate_left
    · have q : ((n : Int) == 256) = false := by simp; omega
      go_wp2_with fail
      go_ret
      exact ⟨congrArg (fun b => Ending.returned (.bool b)) (show okRn 1 L X P S n = false from decide_eq_false (by have := wi_of HP.out; have := HL.out; omega)).symm, HA.out⟩
    have q3 : ((n : Int) == 256) = true := by simp; omega
    have HQ3 := hid h3
    clear h3
    by_cases h2 : X = 0
    rotate_left
    · have q : (X == 0) = false := by simp; omega
      go_wp2_with fail
      go_ret
      exact ⟨congrArg (fun b => Ending.returned (.bool b)) (show okRn 1 L X P S n = false from decide_eq_false (by have := wi_of HP.out; have := HQ3.out; have := HL.out; omega)).symm, HA.out⟩
    have q2 : (X == 0) = true := by simp; omega
    have HQ2 := hid h2
    clear h2
    by_cases h1 : S = 0
    rotate_left
    · have q : (S == 0) = false := by simp; omega
      go_wp2_with fail
      go_ret
      exact ⟨congrArg (fun b => Ending.returned (.bool b)) (show okRn 1 L X P S n = false from decide_eq_false (by have := wi_of HP.out; have := HQ3.out; have := HQ2.out; have := HL.out; omega)).symm, HA.out⟩
    have q1 : (S == 0) = true := by simp; omega
    have HQ1 := hid h1
    clear h1
    go_wp2_with fail
    go_ret
    exact ⟨congrArg (fun b => Ending.returned (.bool b)) (show okRn 1 L X P S n = true from decide_eq_true (by have := wi_of HP.out; have := HQ3.out; have := HQ2.out; have := HQ1.out; have := HL.out; omega)).symm, HA.out⟩
  have p1 : (K == 1) = false := by simp [k1]
  by_cases k2 : K = 2
  · subst k2
    cases bP
    · go_wp2_with fail
      go_ret
      exact ⟨congrArg (fun b => Ending.returned (.bool b)) (show okRn 2 L X P S n = false from decide_eq_false (by have := wi_no HP.out; have := HL.out; omega)).symm, HA.out⟩
    cases bS
    · go_wp2_with fail
      go_ret
      exact ⟨congrArg (fun b => Ending.returned (.bool b)) (show okRn 2 L X P S n = false from decide_eq_false (by have := wi_of HP.out; have := wi_no HS.out; have := HL.out; omega)).symm, HA.out⟩
    cases bX
    · go_wp2_with fail
      go_ret
      exact ⟨congrArg (fun b => Ending.returned (.bool b)) (show okRn 2 L X P S n = false from decide_eq_false (by have := wi_of HP.out; have := wi_of HS.out; have := wi_no HX.out; have := HL.out; omega)).symm, HA.out⟩
    by_cases h2 : 1 ≤ (n : Int)
    rotate_left
    · have q : decide (1 ≤ (n : Int)) = false := decide_eq_false h2
      go_wp2_with fail
      go_ret
      exact ⟨congrArg (fun b => Ending.returned (.bool b)) (show okRn 2 L X P S n = false from decide_eq_false (by have := wi_of HP.out; have := wi_of HS.out; have := wi_of HX.out; have := HL.out; omega)).symm, HA.out⟩
    by_cases h1 : (n : Int) ≤ 92
    rotate_left
    · have q : decide ((n : Int) ≤ 92) = false := decide_eq_false h1
      go_wp2_with fail
      go_ret
      exact ⟨congrArg (fun b => Ending.returned (.bool b)) (show okRn 2 L X P S n = false from decide_eq_false (by have := wi_of HP.out; have := wi_of HS.out; have := wi_of HX.out; have := HL.out; omega)).symm, HA.out⟩
    go_wp2_with fail
    go_ret
    exact ⟨congrArg (fun b => Ending.returned (.bool b)) (show okRn 2 L X P S n = true from decide_eq_true (by have := wi_of HP.out; have := wi_of HS.out; have := wi_of HX.out; have := HL.out; omega)).symm, HA.out⟩
  have p2 : (K == 2) = false := by simp [k2]
  by_cases k3 : K = 3
  · subst k3
    cases bP
    · go_wp2_with fail
      go_ret
      exact ⟨congrArg (fun b => Ending.returned (.bool b)) (show okRn 3 L X P S n = false from decide_eq_false (by have := wi_no HP.out; have := HL.out; omega)).symm, HA.out⟩
    cases bS
    · go_wp2_with fail
      go_ret
      exact ⟨congrArg (fun b => Ending.returned (.bool b)) (show okRn 3 L X P S n = false from decide_eq_false (by have := wi_of HP.out; have := wi_no HS.out; have := HL.out; omega)).symm, HA.out⟩
    cases bX
    · go_wp2_with fail
      go_ret
      exact ⟨congrArg (fun b => Ending.returned (.bool b)) (show okRn 3 L X P S n = false from decide_eq_false (by have := wi_of HP.out; have := wi_of HS.out; have := wi_no HX.out; have := HL.out; omega)).symm, HA.out⟩
    by_cases h1 : (n : Int) = 0
    rotate_left
    · have q : ((n : Int) == 0) = false := by simp; omega
      go_wp2_with fail
      go_ret
      exact ⟨congrArg (fun b => Ending.returned (.bool b)) (show okRn 3 L X P S n = false from decide_eq_false (by have := wi_of HP.out; have := wi_of HS.out; have := wi_of HX.out; have := HL.out; omega)).symm, HA.out⟩
    have q1 : ((n : Int) == 0) = true := by simp; omega
    have HQ1 := hid h1
    clear h1
    go_wp2_with fail
    go_ret
    exact ⟨congrArg (fun b => Ending.returned (.bool b)) (show okRn 3 L X P S n = true from decide_eq_true (by have := wi_of HP.out; have := wi_of HS.out; have := wi_of HX.out; have := HQ1.out; have := HL.out; omega)).symm, HA.out⟩
  have p3 : (K == 3) = false := by simp [k3]
  by_cases k4 : K = 4
  · subst k4
    cases bP
    · go_wp2_with fail
      go_ret
      exact ⟨congrArg (fun b => Ending.returned (.bool b)) (show okRn 4 L X P S n = false from decide_eq_false (by have := wi_no HP.out; have := HL.out; omega)).symm, HA.out⟩
    cases bS
    · go_wp2_with fail
      go_ret
      exact ⟨congrArg (fun b => Ending.returned (.bool b)) (show okRn 4 L X P S n = false from decide_eq_false (by have := wi_of HP.out; have := wi_no HS.out; have := HL.out; omega)).symm, HA.out⟩
    by_cases h2 : X = 0
    rotate_left
    · have q : (X == 0) = false := by simp; omega
      go_wp2_with fail
      go_ret
      exact ⟨congrArg (fun b => Ending.returned (.bool b)) (show okRn 4 L X P S n = false from decide_eq_false (by have := wi_of HP.out; have := wi_of HS.out; have := HL.out; omega)).symm, HA.out⟩
    have q2 : (X == 0) = true := by simp; omega
    have HQ2 := hid h2
    clear h2
    by_cases h1 : (n : Int) = 0
    rotate_left
    · have q : ((n : Int) == 0) = false := by simp; omega
      go_wp2_with fail
      go_ret
      exact ⟨congrArg (fun b => Ending.returned (.bool b)) (show okRn 4 L X P S n = false from decide_eq_false (by have := wi_of HP.out; have := wi_of HS.out; have := HQ2.out; have := HL.out; omega)).symm, HA.out⟩
    have q1 : ((n : Int) == 0) = true := by simp; omega
    have HQ1 := hid h1
    clear h1
    go_wp2_with fail
    go_ret
    exact ⟨congrArg (fun b => Ending.returned (.bool b)) (show okRn 4 L X P S n = true from decide_eq_true (by have := wi_of HP.out; have := wi_of HS.out; have := HQ2.out; have := HQ1.out; have := HL.out; omega)).symm, HA.out⟩
  have p4 : (K == 4) = false := by simp [k4]
  by_cases k5 : K = 5
  · subst k5
    cases bX
    · go_wp2_with fail
      go_ret
      exact ⟨congrArg (fun b => Ending.returned (.bool b)) (show okRn 5 L X P S n = false from decide_eq_false (by have := wi_no HX.out; have := HL.out; omega)).symm, HA.out⟩
    by_cases h3 : P = 0
    rotate_left
    · have q : (P == 0) = false := by simp; omega
      go_wp2_with fail
      go_ret
      exact ⟨congrArg (fun b => Ending.returned (.bool b)) (show okRn 5 L X P S n = false from decide_eq_false (by have := wi_of HX.out; have := HL.out; omega)).symm, HA.out⟩
    have q3 : (P == 0) = true := by simp; omega
    have HQ3 := hid h3
    clear h3
    by_cases h2 : S = 0
    rotate_left
    · have q : (S == 0) = false := by simp; omega
      go_wp2_with fail
      go_ret
      exact ⟨congrArg (fun b => Ending.returned (.bool b)) (show okRn 5 L X P S n = false from decide_eq_false (by have := wi_of HX.out; have := HQ3.out; have := HL.out; omega)).symm, HA.out⟩
    have q2 : (S == 0) = true := by simp; omega
    have HQ2 := hid h2
    clear h2
    by_cases h1 : (n : Int) = 0
    rotate_left
    · have q : ((n : Int) == 0) = false := by simp; omega
      go_wp2_with fail
      go_ret
      exact ⟨congrArg (fun b => Ending.returned (.bool b)) (show okRn 5 L X P S n = false from decide_eq_false (by have := wi_of HX.out; have := HQ3.out; have := HQ2.out; have := HL.out; omega)).symm, HA.out⟩
    have q1 : ((n : Int) == 0) = true := by simp; omega
    have HQ1 := hid h1
    clear h1
    go_wp2_with fail
    go_ret
    exact ⟨congrArg (fun b => Ending.returned (.bool b)) (show okRn 5 L X P S n = true from decide_eq_true (by have := wi_of HX.out; have := HQ3.out; have := HQ2.out; have := HQ1.out; have := HL.out; omega)).symm, HA.out⟩
  have p5 : (K == 5) = false := by simp [k5]
  go_wp2_with fail
  go_ret
  exact ⟨congrArg (fun b => Ending.returned (.bool b)) (show okRn K L X P S n = false from decide_eq_false (by have := HL.out; omega)).symm, HA.out⟩

set_option maxHeartbeats 6400000 in
theorem impl_RecordOk (K L X P S : Int) (ad : Option Addr) (n cap : Nat) (w : World) : Calls Try.prog 30 #[.agg #[.int .i64 K, .int .i64 L, .int .i64 X, .int .i64 P, .int .i64 S, .slice ad n cap]] w fun e w' => e = .returned (.bool (okRn K L X P S n)) ∧ Below w.heap.size w w' := by
  have HA := hid (Below.alloc1 w (.cells #[.int .i64 K, .int .i64 L, .int .i64 X, .int .i64 P, .int .i64 S, .slice ad n cap] 41))
  have HX := hid (BoxR.new w K L X P S ad n cap 41)
  go_enter Try.func30, Try.ntmps30
  go_wp2_with fail
  refine (impl_within L 1 1000000 _).mono ?_
  rintro e w1 ⟨rfl, rfl⟩
  obtain ⟨bL, hL⟩ : ∃ b, wi L 1 1000000 = b := ⟨_, rfl⟩
  rw [hL]
  cases bL
  · go_wp2_with fail
    go_ret
    exact ⟨congrArg (fun b => Ending.returned (.bool b)) (show okRn K L X P S n = false from decide_eq_false (by have := wi_no hL; omega)).symm, HA.out⟩
  have HL := hid (wi_of hL)
  clear hL
  by_cases k1 : K = 1
  · subst k1
    by_cases h1 : X = 0
    rotate_left
    · have q : (X == 0) = false := by simp; omega
      go_wp2_with fail
      go_ret
      exact ⟨congrArg (fun b => Ending.returned (.bool b)) (show okRn 1 L X P S n = false from decide_eq_false (by have := HL.out; omega)).symm, HA.out⟩
    have q1 : (X == 0) = true := by simp; omega
    have HQ1 := hid h1
    clear h1
    go_wp2_with fail
    refine (hasPage 1 L X P S ad n cap _).mono ?_
    rintro e w29 ⟨rfl, b⟩
    replace HX := hid (HX.out.below b (Nat.le_refl _))
    replace HA := hid (HA.out.trans (b.mono HA.out.size))
    clear b
    obtain ⟨c0, c1, c2, c3, c4, c5⟩ := HX.out
    obtain ⟨bP, hP⟩ : ∃ b, wi P 0 15 = b := ⟨_, rfl⟩
    rw [hP]
    have HP2 := hid hP
    clear hP
    cases bP
    · go_wp2_with fail
      go_ret
      exact ⟨congrArg (fun b => Ending.returned (.bool b)) (show okRn 1 L X P S n = false from decide_eq_false (by have := HQ1.out; have := wi_no HP2.out; have := HL.out; omega)).symm, HA.out⟩
    by_cases h3 : S = 0
    rotate_left
    · have q : (S == 0) = false := by simp; omega
      go_wp2_with fail
      go_ret
      exact ⟨congrArg (fun b => Ending.returned (.bool b)) (show okRn 1 L X P S n = false from decide_eq_false (by have := HQ1.out; have := wi_of HP2.out; have := HL.out; omega)).symm, HA.out⟩
    have q3 : (S == 0) = true := by simp; omega
    have HQ3 := hid h3
    clear h3
    by_cases h4 : (n : Int) = 256
    rotate_left
    · have q : ((n : Int) == 256) = false := by simp; omega
      go_wp2_with fail
      go_ret
      exact ⟨congrArg (fun b => Ending.returned (.bool b)) (show okRn 1 L X P S n = false from decide_eq_false (by have := HQ1.out; have := wi_of HP2.out; have := HQ3.out; have := HL.out; omega)).symm, HA.out⟩
    have q4 : ((n : Int) == 256) = true := by simp; omega
    have HQ4 := hid h4
    clear h4
    go_wp2_with fail
    go_ret
    exact ⟨congrArg (fun b => Ending.returned (.bool b)) (show okRn 1 L X P S n = true from decide_eq_true (by have := HQ1.out; have := wi_of HP2.out; have := HQ3.out; have := HQ4.out; have := HL.out; omega)).symm, HA.out⟩
  have p1 : (K == 1) = false := by simp [k1]
  by_cases k2 : K = 2
  · subst k2
    go_wp2_with fail
    refine (hasXid 2 L X P S ad n cap _).mono ?_
    rintro e w59 ⟨rfl, b⟩
    replace HX := hid (HX.out.below b (Nat.le_refl _))
    replace HA := hid (HA.out.trans (b.mono HA.out.size))
    clear b
    obtain ⟨c0, c1, c2, c3, c4, c5⟩ := HX.out
    obtain ⟨bX, hX⟩ : ∃ b, wi X 1 400 = b := ⟨_, rfl⟩
    rw [hX]
    have HX5 := hid hX
    clear hX
    cases bX
    · go_wp2_with fail
      go_ret
      exact ⟨congrArg (fun b => Ending.returned (.bool b)) (show okRn 2 L X P S n = false from decide_eq_false (by have := wi_no HX5.out; have := HL.out; omega)).symm, HA.out⟩
    go_wp2_with fail
    refine (hasSlot 2 L X P S ad n cap _).mono ?_
    rintro e w69 ⟨rfl, b⟩
    replace HX := hid (HX.out.below b (Nat.le_refl _))
    replace HA := hid (HA.out.trans (b.mono HA.out.size))
    clear b
    obtain ⟨c0, c1, c2, c3, c4, c5⟩ := HX.out
    obtain ⟨bP, hP⟩ : ∃ b, wi P 0 15 = b := ⟨_, rfl⟩
    rw [hP]
    have HP6 := hid hP
    clear hP
    cases bP
    · rw [Bool.false_and]
      go_wp2_with fail
      go_ret
      exact ⟨congrArg (fun b => Ending.returned (.bool b)) (show okRn 2 L X P S n = false from decide_eq_false (by have := wi_of HX5.out; have := wi_no HP6.out; have := HL.out; omega)).symm, HA.out⟩
    obtain ⟨bS, hS⟩ : ∃ b, wi S 0 15 = b := ⟨_, rfl⟩
    rw [hS]
    have HS6 := hid hS
    clear hS
    cases bS
    · rw [Bool.and_false]
      go_wp2_with fail
      go_ret
      exact ⟨congrArg (fun b => Ending.returned (.bool b)) (show okRn 2 L X P S n = false from decide_eq_false (by have := wi_of HX5.out; have := wi_of HP6.out; have := wi_no HS6.out; have := HL.out; omega)).symm, HA.out⟩
    rw [Bool.and_self]
    go_wp2_with fail
    refine (impl_within n 1 92 _).mono ?_
    rintro e w79 ⟨rfl, rfl⟩
    obtain ⟨bN, hN⟩ : ∃ b, wi (n : Int) 1 92 = b := ⟨_, rfl⟩
    rw [hN]
    have HN7 := hid hN
    clear hN
    cases bN
    · go_wp2_with fail
      go_ret
      exact ⟨congrArg (fun b => Ending.returned (.bool b)) (show okRn 2 L X P S n = false from decide_eq_false (by have := wi_of HX5.out; have := wi_of HP6.out; have := wi_of HS6.out; have := wi_no HN7.out; have := HL.out; omega)).symm, HA.out⟩
    go_wp2_with fail
    go_ret
    exact ⟨congrArg (fun b => Ending.returned (.bool b)) (show okRn 2 L X P S n = true from decide_eq_true (by have := wi_of HX5.out; have := wi_of HP6.out; have := wi_of HS6.out; have := wi_of HN7.out; have := HL.out; omega)).symm, HA.out⟩
  have p2 : (K == 2) = false := by simp [k2]
  by_cases k3 : K = 3
  · subst k3
    go_wp2_with fail
    refine (hasXid 3 L X P S ad n cap _).mono ?_
    rintro e w89 ⟨rfl, b⟩
    replace HX := hid (HX.out.below b (Nat.le_refl _))
    replace HA := hid (HA.out.trans (b.mono HA.out.size))
    clear b
    obtain ⟨c0, c1, c2, c3, c4, c5⟩ := HX.out
    obtain ⟨bX, hX⟩ : ∃ b, wi X 1 400 = b := ⟨_, rfl⟩
    rw [hX]
    have HX8 := hid hX
    clear hX
    cases bX
    · go_wp2_with fail
      go_ret
      exact ⟨congrArg (fun b => Ending.returned (.bool b)) (show okRn 3 L X P S n = false from decide_eq_false (by have := wi_no HX8.out; have := HL.out; omega)).symm, HA.out⟩
    go_wp2_with fail
    refine (hasSlot 3 L X P S ad n cap _).mono ?_
    rintro e w99 ⟨rfl, b⟩
    replace HX := hid (HX.out.below b (Nat.le_refl _))
    replace HA := hid (HA.out.trans (b.mono HA.out.size))
    clear b
    obtain ⟨c0, c1, c2, c3, c4, c5⟩ := HX.out
    obtain ⟨bP, hP⟩ : ∃ b, wi P 0 15 = b := ⟨_, rfl⟩
    rw [hP]
    have HP9 := hid hP
    clear hP
    cases bP
    · rw [Bool.false_and]
      go_wp2_with fail
      go_ret
      exact ⟨congrArg (fun b => Ending.returned (.bool b)) (show okRn 3 L X P S n = false from decide_eq_false (by have := wi_of HX8.out; have := wi_no HP9.out; have := HL.out; omega)).symm, HA.out⟩
    obtain ⟨bS, hS⟩ : ∃ b, wi S 0 15 = b := ⟨_, rfl⟩
    rw [hS]
    have HS9 := hid hS
    clear hS
    cases bS
    · rw [Bool.and_false]
      go_wp2_with fail
      go_ret
      exact ⟨congrArg (fun b => Ending.returned (.bool b)) (show okRn 3 L X P S n = false from decide_eq_false (by have := wi_of HX8.out; have := wi_of HP9.out; have := wi_no HS9.out; have := HL.out; omega)).symm, HA.out⟩
    rw [Bool.and_self]
    by_cases h10 : (n : Int) = 0
    rotate_left
    · have q : ((n : Int) == 0) = false := by simp; omega
      go_wp2_with fail
      go_ret
      exact ⟨congrArg (fun b => Ending.returned (.bool b)) (show okRn 3 L X P S n = false from decide_eq_false (by have := wi_of HX8.out; have := wi_of HP9.out; have := wi_of HS9.out; have := HL.out; omega)).symm, HA.out⟩
    have q10 : ((n : Int) == 0) = true := by simp; omega
    have HQ10 := hid h10
    clear h10
    go_wp2_with fail
    go_ret
    exact ⟨congrArg (fun b => Ending.returned (.bool b)) (show okRn 3 L X P S n = true from decide_eq_true (by have := wi_of HX8.out; have := wi_of HP9.out; have := wi_of HS9.out; have := HQ10.out; have := HL.out; omega)).symm, HA.out⟩
  have p3 : (K == 3) = false := by simp [k3]
  by_cases k4 : K = 4
  · subst k4
    by_cases h11 : X = 0
    rotate_left
    · have q : (X == 0) = false := by simp; omega
      go_wp2_with fail
      go_ret
      exact ⟨congrArg (fun b => Ending.returned (.bool b)) (show okRn 4 L X P S n = false from decide_eq_false (by have := HL.out; omega)).symm, HA.out⟩
    have q11 : (X == 0) = true := by simp; omega
    have HQ11 := hid h11
    clear h11
    go_wp2_with fail
    refine (hasSlot 4 L X P S ad n cap _).mono ?_
    rintro e w129 ⟨rfl, b⟩
    replace HX := hid (HX.out.below b (Nat.le_refl _))
    replace HA := hid (HA.out.trans (b.mono HA.out.size))
    clear b
    obtain ⟨c0, c1, c2, c3, c4, c5⟩ := HX.out
    obtain ⟨bP, hP⟩ : ∃ b, wi P 0 15 = b := ⟨_, rfl⟩
    rw [hP]
    have HP12 := hid hP
    clear hP
    cases bP
    · rw [Bool.false_and]
      go_wp2_with fail
      go_ret
      exact ⟨congrArg (fun b => Ending.returned (.bool b)) (show okRn 4 L X P S n = false from decide_eq_false (by have := HQ11.out; have := wi_no HP12.out; have := HL.out; omega)).symm, HA.out⟩
    obtain ⟨bS, hS⟩ : ∃ b, wi S 0 15 = b := ⟨_, rfl⟩
    rw [hS]
    have HS12 := hid hS
    clear hS
    cases bS
    · rw [Bool.and_false]
      go_wp2_with fail
      go_ret
      exact ⟨congrArg (fun b => Ending.returned (.bool b)) (show okRn 4 L X P S n = false from decide_eq_false (by have := HQ11.out; have := wi_of HP12.out; have := wi_no HS12.out; have := HL.out; omega)).symm, HA.out⟩
    rw [Bool.and_self]
    by_cases h13 : (n : Int) = 0
    rotate_left
    · have q : ((n : Int) == 0) = false := by simp; omega
      go_wp2_with fail
      go_ret
      exact ⟨congrArg (fun b => Ending.returned (.bool b)) (show okRn 4 L X P S n = false from decide_eq_false (by have := HQ11.out; have := wi_of HP12.out; have := wi_of HS12.out; have := HL.out; omega)).symm, HA.out⟩
    have q13 : ((n : Int) == 0) = true := by simp; omega
    have HQ13 := hid h13
    clear h13
    go_wp2_with fail
    go_ret
    exact ⟨congrArg (fun b => Ending.returned (.bool b)) (show okRn 4 L X P S n = true from decide_eq_true (by have := HQ11.out; have := wi_of HP12.out; have := wi_of HS12.out; have := HQ13.out; have := HL.out; omega)).symm, HA.out⟩
  have p4 : (K == 4) = false := by simp [k4]
  by_cases k5 : K = 5
  · subst k5
    go_wp2_with fail
    refine (hasXid 5 L X P S ad n cap _).mono ?_
    rintro e w149 ⟨rfl, b⟩
    replace HX := hid (HX.out.below b (Nat.le_refl _))
    replace HA := hid (HA.out.trans (b.mono HA.out.size))
    clear b
    obtain ⟨c0, c1, c2, c3, c4, c5⟩ := HX.out
    obtain ⟨bX, hX⟩ : ∃ b, wi X 1 400 = b := ⟨_, rfl⟩
    rw [hX]
    have HX14 := hid hX
    clear hX
    cases bX
    · go_wp2_with fail
      go_ret
      exact ⟨congrArg (fun b => Ending.returned (.bool b)) (show okRn 5 L X P S n = false from decide_eq_false (by have := wi_no HX14.out; have := HL.out; omega)).symm, HA.out⟩
    by_cases h15 : P = 0
    rotate_left
    · have q : (P == 0) = false := by simp; omega
      go_wp2_with fail
      go_ret
      exact ⟨congrArg (fun b => Ending.returned (.bool b)) (show okRn 5 L X P S n = false from decide_eq_false (by have := wi_of HX14.out; have := HL.out; omega)).symm, HA.out⟩
    have q15 : (P == 0) = true := by simp; omega
    have HQ15 := hid h15
    clear h15
    by_cases h16 : S = 0
    rotate_left
    · have q : (S == 0) = false := by simp; omega
      go_wp2_with fail
      go_ret
      exact ⟨congrArg (fun b => Ending.returned (.bool b)) (show okRn 5 L X P S n = false from decide_eq_false (by have := wi_of HX14.out; have := HQ15.out; have := HL.out; omega)).symm, HA.out⟩
    have q16 : (S == 0) = true := by simp; omega
    have HQ16 := hid h16
    clear h16
    by_cases h17 : (n : Int) = 0
    rotate_left
    · have q : ((n : Int) == 0) = false := by simp; omega
      go_wp2_with fail
      go_ret
      exact ⟨congrArg (fun b => Ending.returned (.bool b)) (show okRn 5 L X P S n = false from decide_eq_false (by have := wi_of HX14.out; have := HQ15.out; have := HQ16.out; have := HL.out; omega)).symm, HA.out⟩
    have q17 : ((n : Int) == 0) = true := by simp; omega
    have HQ17 := hid h17
    clear h17
    go_wp2_with fail
    go_ret
    exact ⟨congrArg (fun b => Ending.returned (.bool b)) (show okRn 5 L X P S n = true from decide_eq_true (by have := wi_of HX14.out; have := HQ15.out; have := HQ16.out; have := HQ17.out; have := HL.out; omega)).symm, HA.out⟩
  have p5 : (K == 5) = false := by simp [k5]
  go_wp2_with fail
  go_ret
  exact ⟨congrArg (fun b => Ending.returned (.bool b)) (show okRn K L X P S n = false from decide_eq_false (by have := HL.out; omega)).symm, HA.out⟩
end Go.Proofs.Ytdlddgejpcbofaa
