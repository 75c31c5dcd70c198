/- Statuses: what a list says of a number; the contracts of both StatusOf, of within, l5in, isStatus, settled. Conditions: lists of at most 2^62 numbers. -/
import Derived.Test.YtdlddgejpcbofaaNi
namespace Go.Proofs.Ytdlddgejpcbofaa
open Go.RowKit
set_option maxRecDepth 100000

def stOf (l : List Int) (x : Int) : Int := if 1 ≤ x ∧ x ≤ 400 ∧ x < (l.length : Int) ∧ 0 ≤ l.getD x.toNat 0 ∧ l.getD x.toNat 0 ≤ 2 then l.getD x.toNat 0 else 0

theorem spec_in8 (n lo hi : Int) (w : World) : Calls Try.prog 15 #[.int .i64 n, .int .i64 lo, .int .i64 hi] w fun e w' => e = .returned (.bool (decide (lo ≤ n ∧ n ≤ hi))) ∧ w' = w := by
  by_cases h1 : lo ≤ n
  · by_cases h2 : n ≤ hi
    · rw [decide_eq_true ⟨h1, h2⟩]
      go_enter Try.func15, Try.ntmps15
      go_wp2
      go_ret
      exact ⟨rfl, rfl⟩
    · rw [decide_eq_false (by omega)]
      go_enter Try.func15, Try.ntmps15
      go_wp2
      go_ret
      exact ⟨rfl, rfl⟩
  · rw [decide_eq_false (by omega)]
    go_enter Try.func15, Try.ntmps15
    go_wp2
    go_ret
    exact ⟨rfl, rfl⟩
theorem impl_in8 (n lo hi : Int) (w : World) : Calls Try.prog 20 #[.int .i64 n, .int .i64 lo, .int .i64 hi] w fun e w' => e = .returned (.bool (decide (lo ≤ n ∧ n ≤ hi))) ∧ w' = w := by
  by_cases h1 : lo ≤ n
  · by_cases h2 : n ≤ hi
    · rw [decide_eq_true ⟨h1, h2⟩]
      go_enter Try.func20, Try.ntmps20
      go_wp2
      go_ret
      exact ⟨rfl, rfl⟩
    · rw [decide_eq_false (by omega)]
      go_enter Try.func20, Try.ntmps20
      go_wp2
      go_ret
      exact ⟨rfl, rfl⟩
  · rw [decide_eq_false (by omega)]
    go_enter Try.func20, Try.ntmps20
    go_wp2
    go_ret
    exact ⟨rfl, rfl⟩
theorem impl_isStatus (n : Int) (w : World) : Calls Try.prog 37 #[.int .i64 n] w fun e w' => e = .returned (.bool (decide (0 ≤ n ∧ n ≤ 2))) ∧ w' = w := by
  obtain ⟨q, hq⟩ : ∃ q, decide (0 ≤ n ∧ n ≤ 2) = q := ⟨_, rfl⟩
  rw [hq]
  have HQ := hid hq
  clear hq
  go_enter Try.func37, Try.ntmps37
  go_wp2_with fail
  refine (impl_in8 n 0 2 w).mono ?_
  rintro e w1 ⟨rfl, e1⟩
  subst w1
  rw [HQ.out]
  go_wp2_with fail
  go_ret
  exact ⟨rfl, rfl⟩
def setl (s : Int) : Int := if s = 1 then 1 else 2
theorem impl_settled (n : Int) (w : World) : Calls Try.prog 31 #[.int .i64 n] w fun e w' => e = .returned (.int .i64 (setl n)) ∧ w' = w := by
  by_cases h : n = 1
  · subst h
    rw [show setl 1 = 1 by simp [setl]]
    go_enter Try.func31, Try.ntmps31
    go_wp2
    go_ret
    exact ⟨rfl, rfl⟩
  · have q : (n == 1) = false := by simpa using h
    rw [show setl n = 2 by unfold setl; rw [if_neg h]]
    go_enter Try.func31, Try.ntmps31
    go_wp2
    go_ret
    exact ⟨rfl, rfl⟩

theorem ReadsI.at {w : World} {ad : Option Addr} {n : Nat} {l : List Int} (h : ReadsI w ad n l) {k : Nat} (hk : k < n) : ∃ b off, ad = some ⟨b, off, none⟩ ∧ w.cell? ⟨b, off + k, none⟩ = some (.int .i64 (l.getD k 0)) := by
  rcases h.cells with h0 | ⟨b, off, e, hc⟩
  · omega
  · exact ⟨b, off, e, hc k hk⟩

/-- Where a slice's row lies. -/
def Pl (ad : Option Addr) (lo hi : Nat) : Prop := ad = none ∨ ∃ g, ad = some ⟨g, 0, none⟩ ∧ lo ≤ g ∧ g < hi
theorem pl_nb {ad ad' : Option Addr} {lo hi lo' hi' n cap n' cap' : Nat} (h : Pl ad lo hi) (h' : Pl ad' lo' hi') (ho : hi ≤ lo' ∨ hi' ≤ lo) :
    ∀ g, (Value.slice ad n cap).ownBlock = some g → (Value.slice ad' n' cap').ownBlock ≠ some g := by
  intro g hg hg'
  rcases h with rfl | ⟨x, rfl, h1, h2⟩
  · simp [Value.ownBlock] at hg
  · rcases h' with rfl | ⟨y, rfl, h3, h4⟩
    · simp [Value.ownBlock] at hg'
    · simp [Value.ownBlock] at hg hg'; omega
theorem pl_ne {ad ad' : Option Addr} {lo hi lo' hi' n cap : Nat} (h : Pl ad lo hi) (h' : Pl ad' lo' hi') (ho : hi ≤ lo' ∨ hi' ≤ lo) :
    ∀ a, ad = some a → some a.block ≠ (Value.slice ad' n cap).ownBlock := by
  intro a ha he
  rcases h with rfl | ⟨x, rfl, h1, h2⟩
  · cases ha
  · cases ha
    rcases h' with rfl | ⟨y, rfl, h3, h4⟩
    · simp [Value.ownBlock] at he
    · simp [Value.ownBlock] at he; omega
theorem pl_ge {ad : Option Addr} {lo hi B n cap : Nat} (h : Pl ad lo hi) (hB : B ≤ lo) : ∀ k, (Value.slice ad n cap).ownBlock = some k → B ≤ k := by
  intro k hk
  rcases h with rfl | ⟨x, rfl, h1, h2⟩
  · simp [Value.ownBlock] at hk
  · simp [Value.ownBlock] at hk; omega
theorem own_other {w w' : World} {base : Nat} {e : TypeId} {s n : Nat} {v : Value} {xs : List Value} {row : Option Nat} (h : w.ownsRow base e s v n xs) (g : w.grownBy w' row) (hne : ∀ k, v.ownBlock = some k → row ≠ some k) : w'.ownsRow base e s v n xs := by
  refine ⟨h.1, ?_⟩
  rcases h.2 with hn | ⟨x, cap, cur, rfl, hb, hg, rest⟩
  · exact .inl hn
  · refine .inr ⟨x, cap, cur, rfl, hb, ?_, rest⟩
    rw [g.block x (Array.getElem?_eq_some_iff.1 hg).1 (by have := hne x (by simp [Value.ownBlock]); exact fun q => this q.symm)]
    exact hg

set_option maxHeartbeats 1600000 in
theorem impl_StatusOf {ad : Option Addr} {n : Nat} (cap : Nat) {l : List Int} {w : World} (h : ReadsI w ad n l) (hn : n ≤ 4611686018427387904) (x : Int) :
    Calls Try.prog 32 #[.slice ad n cap, .int .i64 x] w fun e w' => e = .returned (.int .i64 (stOf l x)) ∧ w' = w := by
  have hl := h.len
  by_cases hx : 1 ≤ x ∧ x ≤ 400 ∧ x < (n : Int)
  · obtain ⟨k, rfl⟩ : ∃ k : Nat, x = k := ⟨x.toNat, by omega⟩
    obtain ⟨b, off, rfl, hc⟩ := h.at (k := k) (by omega)
    have hz : stOf l k = if 0 ≤ l.getD k 0 ∧ l.getD k 0 ≤ 2 then l.getD k 0 else 0 := by
      unfold stOf; rw [Int.toNat_natCast]
      by_cases h2 : 0 ≤ l.getD k 0 ∧ l.getD k 0 ≤ 2
      · rw [if_pos ⟨by omega, by omega, by omega, h2⟩, if_pos h2]
      · rw [if_neg (fun q => h2 q.2.2.2), if_neg h2]
    obtain ⟨r, hr⟩ : ∃ r, stOf l k = r := ⟨_, rfl⟩
    rw [hr]
    rw [hr] at hz
    generalize l.getD k 0 = c at hc hz
    have HR := hid hz
    have hlt : k < n := by omega
    have HX := hid hx
    clear hx hl h hz hr
    go_enter Try.func32, Try.ntmps32
    go_wp2_with fail
    all_goals (
      refine (impl_in8 _ _ _ w).mono ?_
      rintro e w1 ⟨rfl, e1⟩
      subst w1
      have hx := HX.out
      rw [decide_eq_true (by omega)]
      clear hx
      go_wp2_with fail
      refine (impl_isStatus c w).mono ?_
      rintro e w1 ⟨rfl, e1⟩
      subst w1
      by_cases h2 : 0 ≤ c ∧ c ≤ 2
      · have hr := HR.out
        rw [if_pos h2] at hr
        subst hr
        rw [decide_eq_true h2]
        go_wp2_with fail
        go_ret
        exact ⟨rfl, rfl⟩
      · have hr := HR.out
        rw [if_neg h2] at hr
        subst hr
        rw [decide_eq_false h2]
        go_wp2_with fail
        go_ret
        exact ⟨rfl, rfl⟩)
  · rw [show stOf l x = 0 by unfold stOf; rw [if_neg (by rw [hl]; omega)]]
    have HX := hid hx
    clear hx hl h
    go_enter Try.func32, Try.ntmps32
    go_wp2_with fail
    all_goals (
      refine (impl_in8 _ _ _ w).mono ?_
      rintro e w1 ⟨rfl, e1⟩
      subst w1
      have hx := HX.out
      rw [decide_eq_false (by omega)]
      clear hx
      go_wp2_with fail
      go_ret
      exact ⟨rfl, rfl⟩)

set_option maxHeartbeats 1600000 in
theorem spec_StatusOf {ad : Option Addr} {n : Nat} (cap : Nat) {l : List Int} {w : World} (h : ReadsI w ad n l) (x : Int) :
    Calls Try.prog 27 #[.slice ad n cap, .int .i64 x] w fun e w' => e = .returned (.int .i64 (stOf l x)) ∧ w' = w := by
  have hl := h.len
  by_cases hx : 1 ≤ x ∧ x ≤ 400
  · by_cases hxn : x < (n : Int)
    · obtain ⟨k, rfl⟩ : ∃ k : Nat, x = k := ⟨x.toNat, by omega⟩
      obtain ⟨b, off, rfl, hc⟩ := h.at (k := k) (by omega)
      have hz : stOf l k = if 1 ≤ l.getD k 0 ∧ l.getD k 0 ≤ 2 then l.getD k 0 else 0 := by
        unfold stOf; rw [Int.toNat_natCast]
        generalize l.getD k 0 = d
        by_cases h2 : 1 ≤ d ∧ d ≤ 2
        · rw [if_pos ⟨by omega, by omega, by omega, by omega, by omega⟩, if_pos h2]
        · by_cases h3 : d = 0
          · rw [if_neg h2, if_pos ⟨by omega, by omega, by omega, by omega, by omega⟩, h3]
          · rw [if_neg (by omega), if_neg h2]
      obtain ⟨r, hr⟩ : ∃ r, stOf l k = r := ⟨_, rfl⟩
      rw [hr]
      rw [hr] at hz
      generalize l.getD k 0 = c at hc hz
      have HR := hid hz
      have hlt : k < n := by omega
      clear hl h hz hr
      go_enter Try.func27, Try.ntmps27
      go_wp2_with fail
      refine (spec_in8 _ _ _ w).mono ?_
      rintro e w1 ⟨rfl, e1⟩
      subst w1
      rw [decide_eq_true (by omega)]
      have q : ¬ ((n : Int) ≤ (k : Int)) := by omega
      go_wp2_with fail
      refine (spec_in8 c 1 2 w).mono ?_
      rintro e w1 ⟨rfl, e1⟩
      subst w1
      by_cases h2 : 1 ≤ c ∧ c ≤ 2
      · have hr := HR.out
        rw [if_pos h2] at hr
        subst hr
        rw [decide_eq_true h2]
        go_wp2_with fail
        go_ret
        exact ⟨rfl, rfl⟩
      · have hr := HR.out
        rw [if_neg h2] at hr
        subst hr
        rw [decide_eq_false h2]
        go_wp2_with fail
        go_ret
        exact ⟨rfl, rfl⟩
    · rw [show stOf l x = 0 by unfold stOf; rw [if_neg (by rw [hl]; omega)]]
      have q : (n : Int) ≤ x := by omega
      clear hl h
      go_enter Try.func27, Try.ntmps27
      go_wp2_with fail
      refine (spec_in8 _ _ _ w).mono ?_
      rintro e w1 ⟨rfl, e1⟩
      subst w1
      rw [decide_eq_true hx]
      go_wp2_with fail
      go_ret
      exact ⟨rfl, rfl⟩
  · rw [show stOf l x = 0 by unfold stOf; rw [if_neg (by omega)]]
    clear hl h
    go_enter Try.func27, Try.ntmps27
    go_wp2_with fail
    refine (spec_in8 _ _ _ w).mono ?_
    rintro e w1 ⟨rfl, e1⟩
    subst w1
    rw [decide_eq_false hx]
    go_wp2_with fail
    go_ret
    exact ⟨rfl, rfl⟩
end Go.Proofs.Ytdlddgejpcbofaa
