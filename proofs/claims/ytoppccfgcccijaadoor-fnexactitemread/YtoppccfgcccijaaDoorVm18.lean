/- What the listed tables and errors of the library give; a world that holds them. -/
import Derived.Test.YtoppccfgcccijaaDoorVl18
import Derived.Test.YtoppccfgcccijaaDoorYf18
import Derived.Stop.Joined
import Derived.Stop.LaidTwo
namespace Go.Proofs.YtoppccfgcccijaaDoor
open Go.ChangeShapes Go.WideShapes Go.ChangeAt Go.RowKit
set_option maxRecDepth 100000

def laidB : List (String × DataW Unit) := [("math/bits.deBruijn32tab", Rows.laid_math_bits_deBruijn32tab), ("math/bits.deBruijn64tab", Rows.laid_math_bits_deBruijn64tab), ("internal/strconv.uint64pow10", Rows.laid_internal_strconv_uint64pow10), ("strconv.ErrRange", Rows.laid_strconv_ErrRange), ("strconv.ErrSyntax", Rows.laid_strconv_ErrSyntax)]
theorem Tryd.gRng : Tryd.prog.globalNamed "strconv.ErrRange" = some 2 := by kernel_rfl
theorem Tryd.gSyn : Tryd.prog.globalNamed "strconv.ErrSyntax" = some 1 := by kernel_rfl
theorem Tryd.gRngType : (Tryd.prog.globals[2]?).map (·.type) = some 80 := by kernel_rfl
theorem Tryd.gSynType : (Tryd.prog.globals[1]?).map (·.type) = some 80 := by kernel_rfl
theorem Tryd.cellsErr18 : Tryd.prog.cellsOf 131 = 1 := by kernel_rfl
theorem Tryd.cellsStr18 : Tryd.prog.cellsOf 9 = 1 := by kernel_rfl
theorem starred18 : "*" ++ "errors.errorString" = "*errors.errorString" := by decide
theorem Tryd.rowErr18 (u : TypeId) (h : Tryd.prog.typeName? 3 u = some "*errors.errorString") : u = 129 :=
  typeName_ptr_named (nm := "errors.errorString") (by rw [starred18]; kernel_rfl) (by kernel_rfl) (by decide) u (by rw [starred18]; exact h)
theorem lib_ofB {W : World} (h : laidMetH Tryd.prog laidB W) : LibT W := by
  have h1 : laidMet Tryd.prog laidB W := h
  obtain ⟨a0, a1, s0, s1, c0, c1, t0, t1, hv0, hv1, _⟩ := laid_sentinels2 (laidMet.tail (laidMet.tail (laidMet.tail h1))) Tryd.gRng Tryd.gRngType Tryd.gSyn Tryd.gSynType Tryd.underlying80 Tryd.rowErr18 Tryd.underlying129 Tryd.underlying131 rfl rfl Tryd.underlying9 Tryd.cellsErr18 Tryd.cellsStr18
  exact ⟨pow_of18 h1, ⟨_, _, hv1⟩, ⟨_, _, hv0⟩⟩
abbrev rngS : ByteArray := { data := #[118, 97, 108, 117, 101, 32, 111, 117, 116, 32, 111, 102, 32, 114, 97, 110, 103, 101] }
abbrev synS : ByteArray := { data := #[105, 110, 118, 97, 108, 105, 100, 32, 115, 121, 110, 116, 97, 120] }
noncomputable def lowB18 : Nat := (World.holding Tryd.prog default ⟨#[], #[], []⟩).heap.size
noncomputable def laidWorldB (os : Os) : World :=
  let w0 := World.holding Tryd.prog os ⟨#[.cells #[.string rngS] 131, .cells #[.string synS] 131], #[], []⟩
  { w0 with heap := ((((w0.heap.modify 5 fun
      | .cells _ t frozen => .cells (cellsD Rows.laid_math_bits_deBruijn32tab) t frozen
      | o => o).modify 6 fun
      | .cells _ t frozen => .cells (cellsD Rows.laid_math_bits_deBruijn64tab) t frozen
      | o => o).modify 3 fun
      | .cells _ t frozen => .cells (cellsD Rows.laid_internal_strconv_uint64pow10) t frozen
      | o => o).modify 2 fun
      | .cells _ t frozen => .cells #[.iface 129 (.pointer (some ⟨lowB18, 0, none⟩))] t frozen
      | o => o).modify 1 fun
      | .cells _ t frozen => .cells #[.iface 129 (.pointer (some ⟨lowB18 + 1, 0, none⟩))] t frozen
      | o => o }
theorem laid_metB0 (os : Os) (args : Array Value) : laidMet Tryd.prog laidB ((laidWorldB os).forCall (fun _ _ => 0) ⟨#[], args, []⟩).memory :=
  laidMet_of_run' 8 (by kernel_rfl) (by kernel_rfl)
theorem laid_metB (os : Os) (args : Array Value) : laidMetH Tryd.prog laidB ((laidWorldB os).forCall (fun _ _ => 0) ⟨#[], args, []⟩).memory := laid_metB0 os args
end Go.Proofs.YtoppccfgcccijaaDoor
