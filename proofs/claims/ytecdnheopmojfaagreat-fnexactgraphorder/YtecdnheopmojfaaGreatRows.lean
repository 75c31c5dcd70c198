/-
  No cell of these rows narrows 'for every input' (looked for: loops, veiled, ifaces, maps, wideKeys, modest, calm, conditions, laid).
  DERIVED. THE GIVEN ROWS OF THIS SEAT. 5 by the template 'for every input the law returns true; each argument reads behind the call as it read before'; 0 by the template 'total and deterministic' (their statements: YtecdnheopmojfaaGreatTotals.lean).
  GIVEN WITH THE SEED: the statements are not yours to turn. If you find one false, say at which input.
  Laid BY PROGRAM, IN A SANDBOX (cutbox-rows.mjs): the forced cells as the released guide's own fill.sh prints them over the translation e8e7c0f7aa553f18… (all of the seat's roots in one cut). By AI agents, Wed Nov 11 2026. No macro, syntax, notation, axiom, sorry.
-/
import Derived.Test.YtecdnheopmojfaaGreatChecked
import GoSem.Claim
import GoSem.ClaimJoined
import GoSem.ClaimMapViews
import Derived.JoinedTies
import Derived.KernelRfl
namespace Go.Proofs.YtecdnheopmojfaaGreat
/- THE CELL 'sum', in the pinned program and in every row, IS THE sha256 OF THE DUMP (.gsa) THAT YtecdnheopmojfaaGreatProg.lean LOADS. Nothing in Lean hashes anything: it is a label: what it is worth is what the hold of that sum in a sandbox is worth. -/
noncomputable def Tryz.pinned : Pinned := { name := "ytecdnheopmojfaagreat", sum := "e8e7c0f7aa553f1818aad8ffc4afbc5b69922745b9854e6399de96217f05b0cf", checked := Tryz.checked }
namespace Rows
def none {H : Type} : Left H := { results := [], args := [] }

/-- 'laws.FnOrders': WHATEVER THE INPUT: true; the input reads as it did. -/
def fnOrdersSpec : ChangeSpec := { name := "fnOrders", fn := fun _ => fun
  | [d] => { results := [.lit (.bool true)], args := [d] }
  | _ => none }
def fnOrdersRow : OpenClaim := { program := "ytecdnheopmojfaagreat", sum := "e8e7c0f7aa553f1818aad8ffc4afbc5b69922745b9854e6399de96217f05b0cf", func := "loop.example/g00252/laws.FnOrders", spec := "fnOrders", inPlace := ["math.Float64bits"], unfollowed := true, recurses := true, apart := false }
def FnOrdersSaid : Prop := fnOrdersRow.holds Tryz.pinned (OpenSpec.ofChange fnOrdersSpec)

/-- ITS FALSE NEIGHBOUR: 'it returns false'. Refute it at one input. -/
def fnOrdersWrong : ChangeSpec := { name := "fnOrders", fn := fun _ => fun
  | [d] => { results := [.lit (.bool false)], args := [d] }
  | _ => none }
def FnOrdersWrongFalsely : Prop := fnOrdersRow.holds Tryz.pinned (OpenSpec.ofChange fnOrdersWrong)

/-- 'laws.FnExactGraphEdges': WHATEVER THE INPUT: true; the input reads as it did. -/
def fnExactGraphEdgesSpec : ChangeSpec := { name := "fnExactGraphEdges", fn := fun _ => fun
  | [d] => { results := [.lit (.bool true)], args := [d] }
  | _ => none }
def fnExactGraphEdgesRow : OpenClaim := { program := "ytecdnheopmojfaagreat", sum := "e8e7c0f7aa553f1818aad8ffc4afbc5b69922745b9854e6399de96217f05b0cf", func := "loop.example/g00252/laws.FnExactGraphEdges", spec := "fnExactGraphEdges", inPlace := ["math.Float64bits"], unfollowed := true, recurses := true, apart := false }
def FnExactGraphEdgesSaid : Prop := fnExactGraphEdgesRow.holds Tryz.pinned (OpenSpec.ofChange fnExactGraphEdgesSpec)

/-- ITS FALSE NEIGHBOUR: 'it returns false'. Refute it at one input. -/
def fnExactGraphEdgesWrong : ChangeSpec := { name := "fnExactGraphEdges", fn := fun _ => fun
  | [d] => { results := [.lit (.bool false)], args := [d] }
  | _ => none }
def FnExactGraphEdgesWrongFalsely : Prop := fnExactGraphEdgesRow.holds Tryz.pinned (OpenSpec.ofChange fnExactGraphEdgesWrong)

/-- 'laws.FnExactGraphOrder': WHATEVER THE INPUT: true; the input reads as it did. -/
def fnExactGraphOrderSpec : ChangeSpec := { name := "fnExactGraphOrder", fn := fun _ => fun
  | [d] => { results := [.lit (.bool true)], args := [d] }
  | _ => none }
def fnExactGraphOrderRow : OpenClaim := { program := "ytecdnheopmojfaagreat", sum := "e8e7c0f7aa553f1818aad8ffc4afbc5b69922745b9854e6399de96217f05b0cf", func := "loop.example/g00252/laws.FnExactGraphOrder", spec := "fnExactGraphOrder", inPlace := ["math.Float64bits"], unfollowed := true, recurses := true, apart := false }
def FnExactGraphOrderSaid : Prop := fnExactGraphOrderRow.holds Tryz.pinned (OpenSpec.ofChange fnExactGraphOrderSpec)

/-- ITS FALSE NEIGHBOUR: 'it returns false'. Refute it at one input. -/
def fnExactGraphOrderWrong : ChangeSpec := { name := "fnExactGraphOrder", fn := fun _ => fun
  | [d] => { results := [.lit (.bool false)], args := [d] }
  | _ => none }
def FnExactGraphOrderWrongFalsely : Prop := fnExactGraphOrderRow.holds Tryz.pinned (OpenSpec.ofChange fnExactGraphOrderWrong)

/-- 'laws.FnExactGraphRing': WHATEVER THE INPUT: true; the input reads as it did. -/
def fnExactGraphRingSpec : ChangeSpec := { name := "fnExactGraphRing", fn := fun _ => fun
  | [d] => { results := [.lit (.bool true)], args := [d] }
  | _ => none }
def fnExactGraphRingRow : OpenClaim := { program := "ytecdnheopmojfaagreat", sum := "e8e7c0f7aa553f1818aad8ffc4afbc5b69922745b9854e6399de96217f05b0cf", func := "loop.example/g00252/laws.FnExactGraphRing", spec := "fnExactGraphRing", inPlace := ["math.Float64bits"], unfollowed := true, recurses := true, apart := false }
def FnExactGraphRingSaid : Prop := fnExactGraphRingRow.holds Tryz.pinned (OpenSpec.ofChange fnExactGraphRingSpec)

/-- ITS FALSE NEIGHBOUR: 'it returns false'. Refute it at one input. -/
def fnExactGraphRingWrong : ChangeSpec := { name := "fnExactGraphRing", fn := fun _ => fun
  | [d] => { results := [.lit (.bool false)], args := [d] }
  | _ => none }
def FnExactGraphRingWrongFalsely : Prop := fnExactGraphRingRow.holds Tryz.pinned (OpenSpec.ofChange fnExactGraphRingWrong)

/-- 'laws.FnExactGraphSerial': WHATEVER THE INPUT: true; the input reads as it did. -/
def fnExactGraphSerialSpec : ChangeSpec := { name := "fnExactGraphSerial", fn := fun _ => fun
  | [d1, d2] => { results := [.lit (.bool true)], args := [d1, d2] }
  | _ => none }
def fnExactGraphSerialRow : OpenClaim := { program := "ytecdnheopmojfaagreat", sum := "e8e7c0f7aa553f1818aad8ffc4afbc5b69922745b9854e6399de96217f05b0cf", func := "loop.example/g00252/laws.FnExactGraphSerial", spec := "fnExactGraphSerial", inPlace := ["math.Float64bits"], unfollowed := true, recurses := true, apart := false }
def FnExactGraphSerialSaid : Prop := fnExactGraphSerialRow.holds Tryz.pinned (OpenSpec.ofChange fnExactGraphSerialSpec)

/-- ITS FALSE NEIGHBOUR: 'it returns false'. Refute it at one input. -/
def fnExactGraphSerialWrong : ChangeSpec := { name := "fnExactGraphSerial", fn := fun _ => fun
  | [d1, d2] => { results := [.lit (.bool false)], args := [d1, d2] }
  | _ => none }
def FnExactGraphSerialWrongFalsely : Prop := fnExactGraphSerialRow.holds Tryz.pinned (OpenSpec.ofChange fnExactGraphSerialWrong)

/- THE SECOND FORM. 'bulk': how many values and letters a reading holds, each counted each time it is reached (what is shared counts as often as it is met; a slice's spare places count too). A statement '..UptoSaid' is the law's where the arguments, and the package variables that the reading takes, are together of bulk at most 1048576: NARROWER than '..Said'. Prove '..Said' where nothing that the law and all that it calls make is longer than what came in: it says more and counts as full. Else prove '..UptoSaid'. A law counts once. -/
mutual
def uptoBulk {H : Type} : DataW H → Nat
  | .lit (.string bytes) => bytes.length + 1
  | .lit _ => 1
  | .nil => 1
  | .ptr d => uptoBulk d + 1
  | .slice elems spare => uptoBulkAll elems + uptoBulkAll spare + 1
  | .agg parts => uptoBulkAll parts + 1
  | .iface _ d => uptoBulk d + 1
  | .map entries => uptoBulkEntries entries + 1
  | .held _ => 1
def uptoBulkAll {H : Type} : List (DataW H) → Nat
  | [] => 0
  | d :: r => uptoBulk d + uptoBulkAll r
def uptoBulkEntries {H : Type} : List (Lit × DataW H) → Nat
  | [] => 0
  | x :: r => uptoBulkEntry x + uptoBulkEntries r
def uptoBulkEntry {H : Type} : Lit × DataW H → Nat
  | (.string bytes, d) => bytes.length + uptoBulk d + 1
  | (_, d) => uptoBulk d + 1
 end
def uptoSmall : (H : Type) → List (DataW H) → Bool := fun _ ds => decide (uptoBulkAll ds ≤ 1048576)
def OpenSpec.upto (s : _root_.Go.ChangeSpec) : _root_.Go.OpenSpec := { _root_.Go.OpenSpec.ofChange s with cond := some uptoSmall }

/-- 'laws.FnOrders', WHERE WHAT IT READS IS OF BULK AT MOST 1048576: true; the input reads as it did. -/
def fnOrdersUptoRow : OpenClaim := { program := "ytecdnheopmojfaagreat", sum := "e8e7c0f7aa553f1818aad8ffc4afbc5b69922745b9854e6399de96217f05b0cf", func := "loop.example/g00252/laws.FnOrders", spec := "fnOrders", inPlace := ["math.Float64bits"], unfollowed := true, recurses := true, apart := false, narrowed := true }
def FnOrdersUptoSaid : Prop := fnOrdersUptoRow.holds Tryz.pinned (OpenSpec.upto fnOrdersSpec)

/-- 'laws.FnExactGraphEdges', WHERE WHAT IT READS IS OF BULK AT MOST 1048576: true; the input reads as it did. -/
def fnExactGraphEdgesUptoRow : OpenClaim := { program := "ytecdnheopmojfaagreat", sum := "e8e7c0f7aa553f1818aad8ffc4afbc5b69922745b9854e6399de96217f05b0cf", func := "loop.example/g00252/laws.FnExactGraphEdges", spec := "fnExactGraphEdges", inPlace := ["math.Float64bits"], unfollowed := true, recurses := true, apart := false, narrowed := true }
def FnExactGraphEdgesUptoSaid : Prop := fnExactGraphEdgesUptoRow.holds Tryz.pinned (OpenSpec.upto fnExactGraphEdgesSpec)

/-- 'laws.FnExactGraphOrder', WHERE WHAT IT READS IS OF BULK AT MOST 1048576: true; the input reads as it did. -/
def fnExactGraphOrderUptoRow : OpenClaim := { program := "ytecdnheopmojfaagreat", sum := "e8e7c0f7aa553f1818aad8ffc4afbc5b69922745b9854e6399de96217f05b0cf", func := "loop.example/g00252/laws.FnExactGraphOrder", spec := "fnExactGraphOrder", inPlace := ["math.Float64bits"], unfollowed := true, recurses := true, apart := false, narrowed := true }
def FnExactGraphOrderUptoSaid : Prop := fnExactGraphOrderUptoRow.holds Tryz.pinned (OpenSpec.upto fnExactGraphOrderSpec)

/-- 'laws.FnExactGraphRing', WHERE WHAT IT READS IS OF BULK AT MOST 1048576: true; the input reads as it did. -/
def fnExactGraphRingUptoRow : OpenClaim := { program := "ytecdnheopmojfaagreat", sum := "e8e7c0f7aa553f1818aad8ffc4afbc5b69922745b9854e6399de96217f05b0cf", func := "loop.example/g00252/laws.FnExactGraphRing", spec := "fnExactGraphRing", inPlace := ["math.Float64bits"], unfollowed := true, recurses := true, apart := false, narrowed := true }
def FnExactGraphRingUptoSaid : Prop := fnExactGraphRingUptoRow.holds Tryz.pinned (OpenSpec.upto fnExactGraphRingSpec)

/-- 'laws.FnExactGraphSerial', WHERE WHAT IT READS IS OF BULK AT MOST 1048576: true; the input reads as it did. -/
def fnExactGraphSerialUptoRow : OpenClaim := { program := "ytecdnheopmojfaagreat", sum := "e8e7c0f7aa553f1818aad8ffc4afbc5b69922745b9854e6399de96217f05b0cf", func := "loop.example/g00252/laws.FnExactGraphSerial", spec := "fnExactGraphSerial", inPlace := ["math.Float64bits"], unfollowed := true, recurses := true, apart := false, narrowed := true }
def FnExactGraphSerialUptoSaid : Prop := fnExactGraphSerialUptoRow.holds Tryz.pinned (OpenSpec.upto fnExactGraphSerialSpec)

end Rows
end Go.Proofs.YtecdnheopmojfaaGreat
