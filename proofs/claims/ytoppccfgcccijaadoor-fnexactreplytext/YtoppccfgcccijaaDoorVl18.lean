/- What the listed tables of the library give; a world that holds them. -/
import Derived.Test.YtoppccfgcccijaaDoorRows
import Derived.Test.YtoppccfgcccijaaDoorYe18
import Derived.ProofKit
import Derived.LaidLaws
import Derived.LaidHandle
import Derived.Lib.LaidTab
import Derived.Stop.LaidErr
namespace Go.Proofs.YtoppccfgcccijaaDoor
open Go.ChangeShapes Go.WideShapes Go.ChangeAt Go.RowKit
set_option maxRecDepth 100000

def laidA : List (String × DataW Unit) := [("math/bits.deBruijn32tab", Rows.laid_math_bits_deBruijn32tab), ("math/bits.deBruijn64tab", Rows.laid_math_bits_deBruijn64tab), ("internal/strconv.uint64pow10", Rows.laid_internal_strconv_uint64pow10)]
theorem Tryd.gPow : Tryd.prog.globalNamed "internal/strconv.uint64pow10" = some 3 := by kernel_rfl
theorem Tryd.gPowType : (Tryd.prog.globals[3]?).map (·.type) = some 124 := by kernel_rfl
theorem Tryd.cellsPow : Tryd.prog.cellsOf 124 = 20 := by kernel_rfl
theorem Tryd.cellsU64 : Tryd.prog.cellsOf 54 = 1 := by kernel_rfl
theorem pow_data18 : (Rows.laid_internal_strconv_uint64pow10 : DataW Unit) = Lib.tabData .u64 Lib.pow10Tab := by kernel_rfl
theorem pow_of18 {r : List (String × DataW Unit)} {W : World} (h : laidMet Tryd.prog (("math/bits.deBruijn32tab", Rows.laid_math_bits_deBruijn32tab) :: ("math/bits.deBruijn64tab", Rows.laid_math_bits_deBruijn64tab) :: ("internal/strconv.uint64pow10", Rows.laid_internal_strconv_uint64pow10) :: r) W) : PowT W := by
  have h2 := laidMet.tail (laidMet.tail h)
  rw [pow_data18] at h2
  exact Lib.tabIs_of_head Tryd.gPow Tryd.gPowType Tryd.underlying124 Tryd.underlying54 Tryd.cellsU64 Tryd.cellsPow h2
theorem pow_ofA {W : World} (h : laidMetH Tryd.prog laidA W) : PowT W := pow_of18 (show laidMet Tryd.prog laidA W from h)
def cellsD : DataW Unit → Array Value
  | .agg l => (l.map fun | .lit (.int k z) => Value.int k z | _ => Value.int .u8 0).toArray
  | _ => #[]
noncomputable def laidWorldA (os : Os) : World :=
  let w0 := World.holding Tryd.prog os ⟨#[], #[], []⟩
  { w0 with heap := ((w0.heap.modify 5 fun
      | .cells _ t frozen => .cells (cellsD Rows.laid_math_bits_deBruijn32tab) t frozen
      | o => o).modify 6 fun
      | .cells _ t frozen => .cells (cellsD Rows.laid_math_bits_deBruijn64tab) t frozen
      | o => o).modify 3 fun
      | .cells _ t frozen => .cells (cellsD Rows.laid_internal_strconv_uint64pow10) t frozen
      | o => o }
theorem laid_metA0 (os : Os) (args : Array Value) : laidMet Tryd.prog laidA ((laidWorldA os).forCall (fun _ _ => 0) ⟨#[], args, []⟩).memory :=
  laidMet_of_run' 8 (by kernel_rfl) (by kernel_rfl)
theorem laid_metA (os : Os) (args : Array Value) : laidMetH Tryd.prog laidA ((laidWorldA os).forCall (fun _ _ => 0) ⟨#[], args, []⟩).memory := laid_metA0 os args
end Go.Proofs.YtoppccfgcccijaaDoor
