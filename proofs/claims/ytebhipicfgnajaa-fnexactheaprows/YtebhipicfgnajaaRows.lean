/-
  No cell of these rows narrows 'for every input' (looked for: loops, veiled, ifaces, maps, wideKeys, modest, calm, conditions, laid).
  DERIVED. THE GIVEN ROWS OF THIS SEAT. 4 by the template 'for every input the law returns true; each argument reads behind the call as it read before'; 0 by the template 'total and deterministic' (their statements: YtebhipicfgnajaaTotals.lean).
  GIVEN WITH THE SEED: the statements are not yours to turn. If you find one false, say at which input.
  Laid BY PROGRAM, IN A SANDBOX (cutbox-rows.mjs): the forced cells as the released guide's own fill.sh prints them over the translation 4c2071adc5e90af3… (all of the seat's roots in one cut). By AI agents, Wed Nov 11 2026. No macro, syntax, notation, axiom, sorry.
-/
import Derived.Test.YtebhipicfgnajaaChecked
import GoSem.Claim
import GoSem.ClaimJoined
import GoSem.ClaimMapViews
import Derived.JoinedTies
import Derived.KernelRfl
namespace Go.Proofs.Ytebhipicfgnajaa
/- THE CELL 'sum', in the pinned program and in every row, IS THE sha256 OF THE DUMP (.gsa) THAT YtebhipicfgnajaaProg.lean LOADS. Nothing in Lean hashes anything: it is a label: what it is worth is what the hold of that sum in a sandbox is worth. -/
noncomputable def Try.pinned : Pinned := { name := "ytebhipicfgnajaa", sum := "4c2071adc5e90af362ac90490dae42dcb4244f5750b5513e221c3ca4219712b9", checked := Try.checked }
namespace Rows
def none {H : Type} : Left H := { results := [], args := [] }

/-- 'laws.FnExactHeapOk': WHATEVER THE INPUT: true; the input reads as it did. -/
def fnExactHeapOkSpec : ChangeSpec := { name := "fnExactHeapOk", fn := fun _ => fun
  | [d] => { results := [.lit (.bool true)], args := [d] }
  | _ => none }
def fnExactHeapOkRow : OpenClaim := { program := "ytebhipicfgnajaa", sum := "4c2071adc5e90af362ac90490dae42dcb4244f5750b5513e221c3ca4219712b9", func := "loop.example/g00252/laws.FnExactHeapOk", spec := "fnExactHeapOk", inPlace := ["math.Float64frombits", "math.Float64bits"], unfollowed := true, recurses := true, apart := false }
def FnExactHeapOkSaid : Prop := fnExactHeapOkRow.holds Try.pinned (OpenSpec.ofChange fnExactHeapOkSpec)

/-- ITS FALSE NEIGHBOUR: 'it returns false'. Refute it at one input. -/
def fnExactHeapOkWrong : ChangeSpec := { name := "fnExactHeapOk", fn := fun _ => fun
  | [d] => { results := [.lit (.bool false)], args := [d] }
  | _ => none }
def FnExactHeapOkWrongFalsely : Prop := fnExactHeapOkRow.holds Try.pinned (OpenSpec.ofChange fnExactHeapOkWrong)

/-- 'laws.FnExactHeapRows': WHATEVER THE INPUT: true; the input reads as it did. -/
def fnExactHeapRowsSpec : ChangeSpec := { name := "fnExactHeapRows", fn := fun _ => fun
  | [d] => { results := [.lit (.bool true)], args := [d] }
  | _ => none }
def fnExactHeapRowsRow : OpenClaim := { program := "ytebhipicfgnajaa", sum := "4c2071adc5e90af362ac90490dae42dcb4244f5750b5513e221c3ca4219712b9", func := "loop.example/g00252/laws.FnExactHeapRows", spec := "fnExactHeapRows", inPlace := ["math.Float64frombits", "math.Float64bits"], unfollowed := true, recurses := true, apart := false }
def FnExactHeapRowsSaid : Prop := fnExactHeapRowsRow.holds Try.pinned (OpenSpec.ofChange fnExactHeapRowsSpec)

/-- ITS FALSE NEIGHBOUR: 'it returns false'. Refute it at one input. -/
def fnExactHeapRowsWrong : ChangeSpec := { name := "fnExactHeapRows", fn := fun _ => fun
  | [d] => { results := [.lit (.bool false)], args := [d] }
  | _ => none }
def FnExactHeapRowsWrongFalsely : Prop := fnExactHeapRowsRow.holds Try.pinned (OpenSpec.ofChange fnExactHeapRowsWrong)

/-- 'laws.FnExactHeapAt': WHATEVER THE INPUT: true; the input reads as it did. -/
def fnExactHeapAtSpec : ChangeSpec := { name := "fnExactHeapAt", fn := fun _ => fun
  | [d1, d2, d3] => { results := [.lit (.bool true)], args := [d1, d2, d3] }
  | _ => none }
def fnExactHeapAtRow : OpenClaim := { program := "ytebhipicfgnajaa", sum := "4c2071adc5e90af362ac90490dae42dcb4244f5750b5513e221c3ca4219712b9", func := "loop.example/g00252/laws.FnExactHeapAt", spec := "fnExactHeapAt", inPlace := ["math.Float64frombits", "math.Float64bits"], unfollowed := true, recurses := true, apart := false }
def FnExactHeapAtSaid : Prop := fnExactHeapAtRow.holds Try.pinned (OpenSpec.ofChange fnExactHeapAtSpec)

/-- ITS FALSE NEIGHBOUR: 'it returns false'. Refute it at one input. -/
def fnExactHeapAtWrong : ChangeSpec := { name := "fnExactHeapAt", fn := fun _ => fun
  | [d1, d2, d3] => { results := [.lit (.bool false)], args := [d1, d2, d3] }
  | _ => none }
def FnExactHeapAtWrongFalsely : Prop := fnExactHeapAtRow.holds Try.pinned (OpenSpec.ofChange fnExactHeapAtWrong)

/-- 'laws.FnExactHeapPlace': WHATEVER THE INPUT: true; the input reads as it did. -/
def fnExactHeapPlaceSpec : ChangeSpec := { name := "fnExactHeapPlace", fn := fun _ => fun
  | [d1, d2] => { results := [.lit (.bool true)], args := [d1, d2] }
  | _ => none }
def fnExactHeapPlaceRow : OpenClaim := { program := "ytebhipicfgnajaa", sum := "4c2071adc5e90af362ac90490dae42dcb4244f5750b5513e221c3ca4219712b9", func := "loop.example/g00252/laws.FnExactHeapPlace", spec := "fnExactHeapPlace", inPlace := ["math.Float64frombits", "math.Float64bits"], unfollowed := true, recurses := true, apart := false }
def FnExactHeapPlaceSaid : Prop := fnExactHeapPlaceRow.holds Try.pinned (OpenSpec.ofChange fnExactHeapPlaceSpec)

/-- ITS FALSE NEIGHBOUR: 'it returns false'. Refute it at one input. -/
def fnExactHeapPlaceWrong : ChangeSpec := { name := "fnExactHeapPlace", fn := fun _ => fun
  | [d1, d2] => { results := [.lit (.bool false)], args := [d1, d2] }
  | _ => none }
def FnExactHeapPlaceWrongFalsely : Prop := fnExactHeapPlaceRow.holds Try.pinned (OpenSpec.ofChange fnExactHeapPlaceWrong)

/- THE SECOND FORM. 'bulk': how many values and letters a reading holds, each counted each time it is reached (what is shared counts as often as it is met; a slice's spare places count too). A statement '..UptoSaid' is the law's where the arguments, and the package variables that the reading takes, are together of bulk at most 1048576: NARROWER than '..Said'. Prove '..Said' where nothing that the law and all that it calls make is longer than what came in: it says more and counts as full. Else prove '..UptoSaid'. A law counts once. -/
mutual
def uptoBulk {H : Type} : DataW H → Nat
  | .lit (.string bytes) => bytes.length + 1
  | .lit _ => 1
  | .nil => 1
  | .ptr d => uptoBulk d + 1
  | .slice elems spare => uptoBulkAll elems + uptoBulkAll spare + 1
  | .agg parts => uptoBulkAll parts + 1
  | .iface _ d => uptoBulk d + 1
  | .map entries => uptoBulkEntries entries + 1
  | .held _ => 1
def uptoBulkAll {H : Type} : List (DataW H) → Nat
  | [] => 0
  | d :: r => uptoBulk d + uptoBulkAll r
def uptoBulkEntries {H : Type} : List (Lit × DataW H) → Nat
  | [] => 0
  | x :: r => uptoBulkEntry x + uptoBulkEntries r
def uptoBulkEntry {H : Type} : Lit × DataW H → Nat
  | (.string bytes, d) => bytes.length + uptoBulk d + 1
  | (_, d) => uptoBulk d + 1
 end
def uptoSmall : (H : Type) → List (DataW H) → Bool := fun _ ds => decide (uptoBulkAll ds ≤ 1048576)
def OpenSpec.upto (s : _root_.Go.ChangeSpec) : _root_.Go.OpenSpec := { _root_.Go.OpenSpec.ofChange s with cond := some uptoSmall }

/-- 'laws.FnExactHeapOk', WHERE WHAT IT READS IS OF BULK AT MOST 1048576: true; the input reads as it did. -/
def fnExactHeapOkUptoRow : OpenClaim := { program := "ytebhipicfgnajaa", sum := "4c2071adc5e90af362ac90490dae42dcb4244f5750b5513e221c3ca4219712b9", func := "loop.example/g00252/laws.FnExactHeapOk", spec := "fnExactHeapOk", inPlace := ["math.Float64frombits", "math.Float64bits"], unfollowed := true, recurses := true, apart := false, narrowed := true }
def FnExactHeapOkUptoSaid : Prop := fnExactHeapOkUptoRow.holds Try.pinned (OpenSpec.upto fnExactHeapOkSpec)

/-- 'laws.FnExactHeapRows', WHERE WHAT IT READS IS OF BULK AT MOST 1048576: true; the input reads as it did. -/
def fnExactHeapRowsUptoRow : OpenClaim := { program := "ytebhipicfgnajaa", sum := "4c2071adc5e90af362ac90490dae42dcb4244f5750b5513e221c3ca4219712b9", func := "loop.example/g00252/laws.FnExactHeapRows", spec := "fnExactHeapRows", inPlace := ["math.Float64frombits", "math.Float64bits"], unfollowed := true, recurses := true, apart := false, narrowed := true }
def FnExactHeapRowsUptoSaid : Prop := fnExactHeapRowsUptoRow.holds Try.pinned (OpenSpec.upto fnExactHeapRowsSpec)

/-- 'laws.FnExactHeapAt', WHERE WHAT IT READS IS OF BULK AT MOST 1048576: true; the input reads as it did. -/
def fnExactHeapAtUptoRow : OpenClaim := { program := "ytebhipicfgnajaa", sum := "4c2071adc5e90af362ac90490dae42dcb4244f5750b5513e221c3ca4219712b9", func := "loop.example/g00252/laws.FnExactHeapAt", spec := "fnExactHeapAt", inPlace := ["math.Float64frombits", "math.Float64bits"], unfollowed := true, recurses := true, apart := false, narrowed := true }
def FnExactHeapAtUptoSaid : Prop := fnExactHeapAtUptoRow.holds Try.pinned (OpenSpec.upto fnExactHeapAtSpec)

/-- 'laws.FnExactHeapPlace', WHERE WHAT IT READS IS OF BULK AT MOST 1048576: true; the input reads as it did. -/
def fnExactHeapPlaceUptoRow : OpenClaim := { program := "ytebhipicfgnajaa", sum := "4c2071adc5e90af362ac90490dae42dcb4244f5750b5513e221c3ca4219712b9", func := "loop.example/g00252/laws.FnExactHeapPlace", spec := "fnExactHeapPlace", inPlace := ["math.Float64frombits", "math.Float64bits"], unfollowed := true, recurses := true, apart := false, narrowed := true }
def FnExactHeapPlaceUptoSaid : Prop := fnExactHeapPlaceUptoRow.holds Try.pinned (OpenSpec.upto fnExactHeapPlaceSpec)

end Rows
end Go.Proofs.Ytebhipicfgnajaa
