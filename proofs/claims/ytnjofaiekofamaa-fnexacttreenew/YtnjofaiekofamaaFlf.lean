/- The contract of the specification's FloatOf: the float with the bits, or some NaN where they are a NaN's; memory stays as it was. For every argument. -/
import Derived.Test.YtnjofaiekofamaaFlq
namespace Go.Proofs.Ytnjofaiekofamaa
open Go.RowKit Ieee

/-- The fields of 64 bits. -/
structure Fields (b e f : Nat) (s : Bool) : Prop where
  he : e < 2048
  hf : f < 4503599627370496
  hb : b = (if s then 9223372036854775808 else 0) + (e * 4503599627370496 + f)
  a1 : bits .and .u64 ((b : Int) / 4503599627370496) 2047 = (e : Int)
  a2 : bits .and .u64 (b : Int) 4503599627370495 = (f : Int)
  a3 : ((b : Int) / 9223372036854775808 == 1) = s

theorem fields (b : Nat) (h : b < 18446744073709551616) : ∃ e f s, Fields b e f s := by
  refine ⟨b / 4503599627370496 % 2048, b % 4503599627370496, decide (9223372036854775808 ≤ b), by omega, by omega, ?_, ?_, ?_, ?_⟩
  · by_cases hs : 9223372036854775808 ≤ b
    · rw [decide_eq_true hs, if_pos rfl]; omega
    · rw [decide_eq_false hs, if_neg (by simp)]; omega
  · have := u64_and_nat (b / 4503599627370496) 2047 (by omega) (by omega)
    rw [show (2047 : Nat) = 2 ^ 11 - 1 from rfl, Nat.and_two_pow_sub_one_eq_mod] at this
    exact this
  · have := u64_and_nat b 4503599627370495 (by omega) (by omega)
    rw [show (4503599627370495 : Nat) = 2 ^ 52 - 1 from rfl, Nat.and_two_pow_sub_one_eq_mod] at this
    exact this
  · by_cases hs : 9223372036854775808 ≤ b
    · rw [decide_eq_true hs]
      exact beq_iff_eq.2 (by omega)
    · rw [decide_eq_false hs]
      exact beq_eq_false_iff_ne.2 (by omega)

theorem ofint_run (f : Nat) (hf : f < 4503599627370496) (w : World) : (convert 71 30 (.int .u64 (f : Int))).run Try.prog w = .ok (.float .f64 (F f 1074)) w := by
  rw [run_convert_int_float w 71 30 .u64 .f64 (f : Int) (by rw [Try.underlying71]; rfl) Try.underlying30, of_F f (by omega)]

end Go.Proofs.Ytnjofaiekofamaa
