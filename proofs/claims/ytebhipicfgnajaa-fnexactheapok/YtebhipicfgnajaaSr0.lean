/- Helps for what is read. -/
import Derived.Test.YtebhipicfgnajaaImr
import Derived.Test.YtebhipicfgnajaaMgb
import Derived.Laws.AppendOwnNone
namespace Go.Proofs.Ytebhipicfgnajaa
open Go.RowKit

theorem two_rows (w : World) (a b : Obj) : ((w.alloc a).alloc b).heap[w.heap.size]? = some a ∧ ((w.alloc a).alloc b).heap[w.heap.size + 1]? = some b ∧ ((w.alloc a).alloc b).heap.size = w.heap.size + 2 := by
  have z1 := alloc_size w a
  have z2 := alloc_size (w.alloc a) b
  refine ⟨?_, ?_, by omega⟩
  · rw [heap_alloc_old _ _ (by omega)]; exact heap_alloc_new w a
  · have := heap_alloc_new (w.alloc a) b
    rwa [z1] at this
theorem row_cells {w : World} {g : Nat} {K N : Int} {f : Nat} {s : Value} {t : TypeId} (h : w.heap[g]? = some (.cells #[.int .i64 K, .int .i64 N, .float .f64 f, s] t)) :
    w.cell? ⟨g, 0, none⟩ = some (.int .i64 K) ∧ w.cell? ⟨g, 1, none⟩ = some (.int .i64 N) ∧ w.cell? ⟨g, 2, none⟩ = some (.float .f64 f) ∧ w.cell? ⟨g, 3, none⟩ = some s := by
  refine ⟨?_, ?_, ?_, ?_⟩ <;> (rw [cell_of_row _ _ _ _ _ _ h]; rfl)
theorem xor_low (x : Nat) (hx : x < 18446744073709551616) : IntKind.i64.wrap (bits .xor .u64 (x : Int) 9223372036854775808) = (x : Int) - 9223372036854775808 := by
  by_cases h : x < 9223372036854775808
  · have h' := u64_xor_nat x 9223372036854775808 (by omega) (by omega)
    have hx' : x ^^^ 9223372036854775808 = 9223372036854775808 + x := neg_bits' x (by omega)
    rw [hx'] at h'
    rw [show ((9223372036854775808 : Int)) = ((9223372036854775808 : Nat) : Int) from rfl, h', IntKind.wrap_i64]
    omega
  · obtain ⟨y, rfl⟩ : ∃ y, x = 9223372036854775808 + y := ⟨x - 9223372036854775808, by omega⟩
    have h' := u64_xor_nat (9223372036854775808 + y) 9223372036854775808 (by omega) (by omega)
    have hx' : (9223372036854775808 + y) ^^^ 9223372036854775808 = y := by
      have : y ^^^ 9223372036854775808 = 9223372036854775808 + y := neg_bits' y (by omega)
      rw [← this, Nat.xor_assoc, Nat.xor_self, Nat.xor_zero]
    rw [hx'] at h'
    rw [show ((9223372036854775808 : Int)) = ((9223372036854775808 : Nat) : Int) from rfl, h', IntKind.wrap_i64]
    omega
theorem setCell_size (w : World) (p : Addr) (v : Value) : (w.setCell p v).heap.size = w.heap.size := by simp
theorem str_eq {a b : List Int} (ha : inB a) (hb : inB b) : ((str a).toList == (str b).toList) = decide (a = b) := by
  rw [str_list, str_list, eq_txt a b ha hb]
  by_cases h : a = b
  · rw [decide_eq_true h, decide_eq_true ((txt_zero a b).2 h)]
  · rw [decide_eq_false h, decide_eq_false (fun e => h ((txt_zero a b).1 e))]
end Go.Proofs.Ytebhipicfgnajaa
