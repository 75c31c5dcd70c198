/- What the two listed variables give: two different sentinels; a world that holds them. -/
import Derived.Test.YtnnnehjlegjejaaDoorRows
import Derived.Test.YtnnnehjlegjejaaDoorSi
import Derived.ProofKit
import Derived.LaidLaws
import Derived.LaidHandle
import Derived.Stop.Joined
import Derived.Stop.LaidErr
import Derived.Stop.LaidTwo
namespace Go.Proofs.YtnnnehjlegjejaaDoor
open Go.ChangeShapes Go.WideShapes Go.ChangeAt Go.RowKit

def nE : String := "loop.example/g00252/impl.errDiskEnded"
def nF : String := "loop.example/g00252/impl.errDiskFull"
def laidL : List (String × DataW Unit) := [(nE, Rows.laid_loop_example_g00252_impl_errDiskEnded), (nF, Rows.laid_loop_example_g00252_impl_errDiskFull)]
theorem Tryd.gE : Tryd.prog.globalNamed nE = some 1 := by kernel_rfl
theorem Tryd.gF : Tryd.prog.globalNamed nF = some 0 := by kernel_rfl
theorem Tryd.gEType : (Tryd.prog.globals[1]?).map (·.type) = some 68 := by kernel_rfl
theorem Tryd.gFType : (Tryd.prog.globals[0]?).map (·.type) = some 68 := by kernel_rfl
theorem Tryd.cellsErr : Tryd.prog.cellsOf 140 = 1 := by kernel_rfl
theorem Tryd.cellsStr : Tryd.prog.cellsOf 9 = 1 := by kernel_rfl
theorem starred : "*" ++ "errors.errorString" = "*errors.errorString" := by decide
theorem Tryd.rowErr (u : TypeId) (h : Tryd.prog.typeName? 3 u = some "*errors.errorString") : u = 114 :=
  typeName_ptr_named (nm := "errors.errorString") (by rw [starred]; kernel_rfl) (by kernel_rfl) (by decide) u (by rw [starred]; exact h)

theorem sents_of {W : World} (hL : laidMetH Tryd.prog laidL W) : ∃ (aE aF : Addr) (cF cE : Array Value) (tF tE : TypeId),
    W.var? Tryd.prog nE = some #[.iface 114 (.pointer (some aE))] ∧ W.var? Tryd.prog nF = some #[.iface 114 (.pointer (some aF))] ∧ Sents W W.heap.size aF aE cF cE tF tE := by
  have hL' : laidMet Tryd.prog laidL W := hL
  obtain ⟨a0, a1, s0, s1, c0, c1, t0, t1, hv0, hv1, hc0, hs0, hz0, hc1, hs1, hz1, hne, hb0, hb1⟩ := laid_sentinels2 hL' Tryd.gE Tryd.gEType Tryd.gF Tryd.gFType Tryd.underlying68 Tryd.rowErr Tryd.underlying114 Tryd.underlying140 rfl rfl Tryd.underlying9 Tryd.cellsErr Tryd.cellsStr
  have g1 : W.cell? ⟨1, 0, none⟩ = some (.iface 114 (.pointer (some a0))) := by simpa using World.var?_cell Tryd.gE hv0 0
  have g0 : W.cell? ⟨0, 0, none⟩ = some (.iface 114 (.pointer (some a1))) := by simpa using World.var?_cell Tryd.gF hv1 0
  exact ⟨a0, a1, c1, c0, t1, t0, hv0, hv1, ⟨g0, g1, hne.symm, hb1, hb0, World.block_lt_of_cell? W _ g1, (Array.getElem?_eq_some_iff.1 hb1).1, (Array.getElem?_eq_some_iff.1 hb0).1⟩⟩

/-- A variable reads as it did while what is old stays. -/
theorem var_kept {W W' : World} {n : String} {g : Nat} {v : Value} (hg : Tryd.prog.globalNamed n = some g) (h : W.var? Tryd.prog n = some #[v]) (b : Below W.heap.size W W') : W'.var? Tryd.prog n = some #[v] := by
  have hc : W.cell? ⟨g, 0, none⟩ = some v := by simpa using World.var?_cell hg h 0
  have hb := b.block g (World.block_lt_of_cell? W _ hc)
  unfold World.var? at h ⊢
  simp only [hg] at h ⊢
  simpa [hb] using h

abbrev endS : ByteArray := { data := #[116, 104, 101, 32, 100, 105, 115, 107, 32, 104, 97, 115, 32, 101, 110, 100, 101, 100] }
abbrev fulS : ByteArray := { data := #[116, 111, 111, 32, 109, 97, 110, 121, 32, 119, 114, 105, 116, 101, 115, 32, 119, 97, 105, 116] }
noncomputable def low : Nat := (World.holding Tryd.prog default ⟨#[], #[], []⟩).heap.size
noncomputable def laidWorld (os : Os) : World :=
  let w0 := World.holding Tryd.prog os ⟨#[.cells #[.string endS] 140, .cells #[.string fulS] 140], #[], []⟩
  { w0 with heap := (w0.heap.modify 1 fun
      | .cells _ t frozen => .cells #[.iface 114 (.pointer (some ⟨low, 0, none⟩))] t frozen
      | o => o).modify 0 fun
      | .cells _ t frozen => .cells #[.iface 114 (.pointer (some ⟨low + 1, 0, none⟩))] t frozen
      | o => o }
theorem laid_met0 (os : Os) (args : Array Value) : laidMet Tryd.prog laidL ((laidWorld os).forCall (fun _ _ => 0) ⟨#[], args, []⟩).memory :=
  laidMet_of_run (ps := [.cell 1 0, .cell low 0, .cell 0 0, .cell (low + 1) 0]) 8 (by kernel_rfl) (by kernel_rfl) (by kernel_rfl)
theorem laid_met (os : Os) (args : Array Value) : laidMetH Tryd.prog laidL ((laidWorld os).forCall (fun _ _ => 0) ⟨#[], args, []⟩).memory := laid_met0 os args
end Go.Proofs.YtnnnehjlegjejaaDoor
