/- Statuses: what a list says of a number; the contracts of both StatusOf, of within, l5in, isStatus, settled. Conditions: lists of at most 2^62 numbers. -/
import Derived.Test.YtplbejipkaionaaNi
namespace Go.Proofs.Ytplbejipkaionaa
open Go.RowKit
set_option maxRecDepth 100000

def stOf (l : List Int) (x : Int) : Int := if 1 ≤ x ∧ x ≤ 400 ∧ x < (l.length : Int) ∧ 0 ≤ l.getD x.toNat 0 ∧ l.getD x.toNat 0 ≤ 2 then l.getD x.toNat 0 else 0

theorem spec_in8 (n lo hi : Int) (w : World) : Calls Try.prog 27 #[.int .i64 n, .int .i64 lo, .int .i64 hi] w fun e w' => e = .returned (.bool (decide (lo ≤ n ∧ n ≤ hi))) ∧ w' = w := by
  by_cases h1 : lo ≤ n
  · by_cases h2 : n ≤ hi
    · rw [decide_eq_true ⟨h1, h2⟩]
      go_enter Try.func27, Try.ntmps27
      go_wp2
      go_ret
      exact ⟨rfl, rfl⟩
    · rw [decide_eq_false (by omega)]
      go_enter Try.func27, Try.ntmps27
      go_wp2
      go_ret
      exact ⟨rfl, rfl⟩
  · rw [decide_eq_false (by omega)]
    go_enter Try.func27, Try.ntmps27
    go_wp2
    go_ret
    exact ⟨rfl, rfl⟩
theorem impl_in8 (n lo hi : Int) (w : World) : Calls Try.prog 36 #[.int .i64 n, .int .i64 lo, .int .i64 hi] w fun e w' => e = .returned (.bool (decide (lo ≤ n ∧ n ≤ hi))) ∧ w' = w := by
  by_cases h1 : lo ≤ n
  · by_cases h2 : n ≤ hi
    · rw [decide_eq_true ⟨h1, h2⟩]
      go_enter Try.func36, Try.ntmps36
      go_wp2
      go_ret
      exact ⟨rfl, rfl⟩
    · rw [decide_eq_false (by omega)]
      go_enter Try.func36, Try.ntmps36
      go_wp2
      go_ret
      exact ⟨rfl, rfl⟩
  · rw [decide_eq_false (by omega)]
    go_enter Try.func36, Try.ntmps36
    go_wp2
    go_ret
    exact ⟨rfl, rfl⟩
def setl (s : Int) : Int := if s = 1 then 1 else 2
theorem ReadsI.at {w : World} {ad : Option Addr} {n : Nat} {l : List Int} (h : ReadsI w ad n l) {k : Nat} (hk : k < n) : ∃ b off, ad = some ⟨b, off, none⟩ ∧ w.cell? ⟨b, off + k, none⟩ = some (.int .i64 (l.getD k 0)) := by
  rcases h.cells with h0 | ⟨b, off, e, hc⟩
  · omega
  · exact ⟨b, off, e, hc k hk⟩

/-- Where a slice's row lies. -/
def Pl (ad : Option Addr) (lo hi : Nat) : Prop := ad = none ∨ ∃ g, ad = some ⟨g, 0, none⟩ ∧ lo ≤ g ∧ g < hi
theorem pl_nb {ad ad' : Option Addr} {lo hi lo' hi' n cap n' cap' : Nat} (h : Pl ad lo hi) (h' : Pl ad' lo' hi') (ho : hi ≤ lo' ∨ hi' ≤ lo) :
    ∀ g, (Value.slice ad n cap).ownBlock = some g → (Value.slice ad' n' cap').ownBlock ≠ some g := by
  intro g hg hg'
  rcases h with rfl | ⟨x, rfl, h1, h2⟩
  · simp [Value.ownBlock] at hg
  · rcases h' with rfl | ⟨y, rfl, h3, h4⟩
    · simp [Value.ownBlock] at hg'
    · simp [Value.ownBlock] at hg hg'; omega
theorem pl_ne {ad ad' : Option Addr} {lo hi lo' hi' n cap : Nat} (h : Pl ad lo hi) (h' : Pl ad' lo' hi') (ho : hi ≤ lo' ∨ hi' ≤ lo) :
    ∀ a, ad = some a → some a.block ≠ (Value.slice ad' n cap).ownBlock := by
  intro a ha he
  rcases h with rfl | ⟨x, rfl, h1, h2⟩
  · cases ha
  · cases ha
    rcases h' with rfl | ⟨y, rfl, h3, h4⟩
    · simp [Value.ownBlock] at he
    · simp [Value.ownBlock] at he; omega
theorem pl_ge {ad : Option Addr} {lo hi B n cap : Nat} (h : Pl ad lo hi) (hB : B ≤ lo) : ∀ k, (Value.slice ad n cap).ownBlock = some k → B ≤ k := by
  intro k hk
  rcases h with rfl | ⟨x, rfl, h1, h2⟩
  · simp [Value.ownBlock] at hk
  · simp [Value.ownBlock] at hk; omega
theorem own_other {w w' : World} {base : Nat} {e : TypeId} {s n : Nat} {v : Value} {xs : List Value} {row : Option Nat} (h : w.ownsRow base e s v n xs) (g : w.grownBy w' row) (hne : ∀ k, v.ownBlock = some k → row ≠ some k) : w'.ownsRow base e s v n xs := by
  refine ⟨h.1, ?_⟩
  rcases h.2 with hn | ⟨x, cap, cur, rfl, hb, hg, rest⟩
  · exact .inl hn
  · refine .inr ⟨x, cap, cur, rfl, hb, ?_, rest⟩
    rw [g.block x (Array.getElem?_eq_some_iff.1 hg).1 (by have := hne x (by simp [Value.ownBlock]); exact fun q => this q.symm)]
    exact hg

end Go.Proofs.Ytplbejipkaionaa
