/- What a slice of floats reads as, in a world; sums of floats in their order; the contracts of FloatSum, the specification's and the program's. Conditions: lengths as Go allows them. -/
import Derived.Test.YtchkbhdlmfchdaaFlf
import Derived.Test.YtchkbhdlmfchdaaFsa
namespace Go.Proofs.Ytchkbhdlmfchdaa
open Go.RowKit Ieee

/-- A slice of n floats at 'ad' reads, in the world w, as the bits xs. -/
structure ReadsF (w : World) (ad : Option Addr) (n : Nat) (xs : List Nat) : Prop where
  len : xs.length = n
  cells : n = 0 ∨ ∃ b off, ad = some ⟨b, off, none⟩ ∧ ∀ i, i < n → w.cell? ⟨b, off + i, none⟩ = some (.float .f64 (xs.getD i 0))
  bd : ∀ i, xs.getD i 0 < 18446744073709551616

theorem ReadsF.below {w w' : World} {ad : Option Addr} {n : Nat} {xs : List Nat} (h : ReadsF w ad n xs) {B : Nat} (hb : Below B w w') (hB : w.heap.size ≤ B) : ReadsF w' ad n xs := by
  refine ⟨h.len, ?_, h.bd⟩
  rcases h.cells with h0 | ⟨b, off, rfl, hc⟩
  · exact .inl h0
  · refine .inr ⟨b, off, rfl, fun i hi => ?_⟩
    have hc' := hc i hi
    have := World.block_lt_of_cell? w _ hc'
    rw [hb.cell (p := ⟨b, off + i, none⟩) (by simp at this ⊢; omega)]
    exact hc'

/-- The cells of floats. -/
def fls (xs : List Nat) : List Value := xs.map (Value.float .f64)

/-- One more float added, all NaNs being one. -/
def fadd (s x : Nat) : Nat := match floatBits .add .f64 s x with
  | some r => r
  | none => 9221120237041090560
def fsum (xs : List Nat) : Nat := xs.foldl fadd 0
/-- What FloatSum answers. -/
def sumOf (xs : List Nat) : Nat := if 1000 < xs.length then 9221120237041090560 else fsum xs
theorem isN_nan : isN 9221120237041090560 = true := by decide

theorem add_nan (s x : Nat) (hs : s < 18446744073709551616) (h : isN s = true) : floatBits .add .f64 s x = none := by
  rw [isN_iff] at h
  obtain ⟨sg, a, h', rfl, ea, -⟩ := split_x s hs
  have hr := read_nan sg a (by omega) (by omega)
  show double.add (double.word sg a) x = none
  unfold Format.add
  rw [hr]
  rfl

theorem fsum_step (xs : List Nat) (k : Nat) (h : k < xs.length) : fsum (xs.take (k + 1)) = fadd (fsum (xs.take k)) (xs.getD k 0) := by
  unfold fsum
  rw [List.take_add_one, List.getElem?_eq_getElem h, Option.toList_some, List.foldl_append]
  simp [List.getD, h]

theorem fadd_lt (s x : Nat) : fadd s x < 18446744073709551616 := by
  unfold fadd
  cases hb : floatBits .add .f64 s x with
  | none => decide
  | some r => have := floatBits_wf hb; simpa [Lit.wf] using this
theorem foldl_lt : ∀ (xs : List Nat) (s : Nat), s < 18446744073709551616 → xs.foldl fadd s < 18446744073709551616
  | [], _, h => h
  | x :: xs, s, _ => foldl_lt xs (fadd s x) (fadd_lt s x)
theorem fsum_lt (xs : List Nat) : fsum xs < 18446744073709551616 := foldl_lt xs 0 (by omega)

/-- One step of a sum as it is run: the operation's answer, the world behind it. -/
theorem add_run (t : TypeId) (S s x : Nat) (hS0 : S < 18446744073709551616) (hs : s < 18446744073709551616) (h : Same S s) (w : World) :
    ∃ y w', (binOp .add t (.float .f64 s) (.float .f64 x)).run Try.prog w = .ok (.float .f64 y) w' ∧ y < 18446744073709551616 ∧ Hid (Same (fadd S x) y) ∧ Hid (Still w w') := by
  cases hb : floatBits .add .f64 s x with
  | none =>
    obtain ⟨n, h1, h2, h3⟩ := nan_run .add t s x (by simp) hb w
    refine ⟨n, _, h1, h3, ?_, hid (Still.drew w)⟩
    have hf : fadd S x = 9221120237041090560 := by
      rcases h with ⟨a, b⟩ | ⟨a, rfl⟩
      · unfold fadd
        rw [add_nan S x hS0 a]
      · unfold fadd; rw [hb]
    rw [hf]
    exact hid (.inl ⟨isN_nan, h2⟩)
  | some r =>
    have hr : r < 18446744073709551616 := by have := floatBits_wf hb; simpa [Lit.wf] using this
    refine ⟨r, w, run_float_arith w .add t .f64 s x r hb, hr, ?_, hid (Still.refl w)⟩
    rcases h with ⟨a, b⟩ | ⟨a, rfl⟩
    · rw [add_nan s x hs b] at hb; cases hb
    · have : fadd s x = r := by unfold fadd; rw [hb]
      rw [this]
      exact hid (Same.refl r)
end Go.Proofs.Ytchkbhdlmfchdaa
