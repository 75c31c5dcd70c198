/-
  No cell of these rows narrows 'for every input' (looked for: loops, veiled, ifaces, maps, wideKeys, modest, calm, conditions, laid).
  DERIVED. THE GIVEN ROWS OF THIS SEAT. 6 by the template 'for every input the law returns true; each argument reads behind the call as it read before'; 0 by the template 'total and deterministic' (their statements: YtemhmlikfiknlaaTotals.lean).
  GIVEN WITH THE SEED: the statements are not yours to turn. If you find one false, say at which input.
  Laid BY PROGRAM, IN A SANDBOX (cutbox-rows.mjs): the forced cells as the released guide's own fill.sh prints them over the translation 52b70a489c5b97ff… (all of the seat's roots in one cut). By AI agents, Wed Nov 11 2026. No macro, syntax, notation, axiom, sorry.
-/
import Derived.Test.YtemhmlikfiknlaaChecked
import GoSem.Claim
import GoSem.ClaimJoined
import GoSem.ClaimMapViews
import Derived.JoinedTies
import Derived.KernelRfl
namespace Go.Proofs.Ytemhmlikfiknlaa
/- THE CELL 'sum', in the pinned program and in every row, IS THE sha256 OF THE DUMP (.gsa) THAT YtemhmlikfiknlaaProg.lean LOADS. Nothing in Lean hashes anything: it is a label: what it is worth is what the hold of that sum in a sandbox is worth. -/
noncomputable def Try.pinned : Pinned := { name := "ytemhmlikfiknlaa", sum := "52b70a489c5b97ff9e89eaf8d2fcc65b78c7cd826e973541e7579e2ff559f608", checked := Try.checked }
namespace Rows
def none {H : Type} : Left H := { results := [], args := [] }

/-- 'laws.FnUnseen': WHATEVER THE INPUT: true; the input reads as it did. -/
def fnUnseenSpec : ChangeSpec := { name := "fnUnseen", fn := fun _ => fun
  | [d] => { results := [.lit (.bool true)], args := [d] }
  | _ => none }
def fnUnseenRow : OpenClaim := { program := "ytemhmlikfiknlaa", sum := "52b70a489c5b97ff9e89eaf8d2fcc65b78c7cd826e973541e7579e2ff559f608", func := "loop.example/g00252/laws.FnUnseen", spec := "fnUnseen", apart := false }
def FnUnseenSaid : Prop := fnUnseenRow.holds Try.pinned (OpenSpec.ofChange fnUnseenSpec)

/-- ITS FALSE NEIGHBOUR: 'it returns false'. Refute it at one input. -/
def fnUnseenWrong : ChangeSpec := { name := "fnUnseen", fn := fun _ => fun
  | [d] => { results := [.lit (.bool false)], args := [d] }
  | _ => none }
def FnUnseenWrongFalsely : Prop := fnUnseenRow.holds Try.pinned (OpenSpec.ofChange fnUnseenWrong)

/-- 'laws.FnExactSnapOk': WHATEVER THE INPUT: true; the input reads as it did. -/
def fnExactSnapOkSpec : ChangeSpec := { name := "fnExactSnapOk", fn := fun _ => fun
  | [d] => { results := [.lit (.bool true)], args := [d] }
  | _ => none }
def fnExactSnapOkRow : OpenClaim := { program := "ytemhmlikfiknlaa", sum := "52b70a489c5b97ff9e89eaf8d2fcc65b78c7cd826e973541e7579e2ff559f608", func := "loop.example/g00252/laws.FnExactSnapOk", spec := "fnExactSnapOk", apart := false }
def FnExactSnapOkSaid : Prop := fnExactSnapOkRow.holds Try.pinned (OpenSpec.ofChange fnExactSnapOkSpec)

/-- ITS FALSE NEIGHBOUR: 'it returns false'. Refute it at one input. -/
def fnExactSnapOkWrong : ChangeSpec := { name := "fnExactSnapOk", fn := fun _ => fun
  | [d] => { results := [.lit (.bool false)], args := [d] }
  | _ => none }
def FnExactSnapOkWrongFalsely : Prop := fnExactSnapOkRow.holds Try.pinned (OpenSpec.ofChange fnExactSnapOkWrong)

/-- 'laws.FnExactSees': WHATEVER THE INPUT: true; the input reads as it did. -/
def fnExactSeesSpec : ChangeSpec := { name := "fnExactSees", fn := fun _ => fun
  | [d1, d2, d3] => { results := [.lit (.bool true)], args := [d1, d2, d3] }
  | _ => none }
def fnExactSeesRow : OpenClaim := { program := "ytemhmlikfiknlaa", sum := "52b70a489c5b97ff9e89eaf8d2fcc65b78c7cd826e973541e7579e2ff559f608", func := "loop.example/g00252/laws.FnExactSees", spec := "fnExactSees", apart := false }
def FnExactSeesSaid : Prop := fnExactSeesRow.holds Try.pinned (OpenSpec.ofChange fnExactSeesSpec)

/-- ITS FALSE NEIGHBOUR: 'it returns false'. Refute it at one input. -/
def fnExactSeesWrong : ChangeSpec := { name := "fnExactSees", fn := fun _ => fun
  | [d1, d2, d3] => { results := [.lit (.bool false)], args := [d1, d2, d3] }
  | _ => none }
def FnExactSeesWrongFalsely : Prop := fnExactSeesRow.holds Try.pinned (OpenSpec.ofChange fnExactSeesWrong)

/-- 'laws.FnExactVisible': WHATEVER THE INPUT: true; the input reads as it did. -/
def fnExactVisibleSpec : ChangeSpec := { name := "fnExactVisible", fn := fun _ => fun
  | [d1, d2, d3, d4] => { results := [.lit (.bool true)], args := [d1, d2, d3, d4] }
  | _ => none }
def fnExactVisibleRow : OpenClaim := { program := "ytemhmlikfiknlaa", sum := "52b70a489c5b97ff9e89eaf8d2fcc65b78c7cd826e973541e7579e2ff559f608", func := "loop.example/g00252/laws.FnExactVisible", spec := "fnExactVisible", apart := false }
def FnExactVisibleSaid : Prop := fnExactVisibleRow.holds Try.pinned (OpenSpec.ofChange fnExactVisibleSpec)

/-- ITS FALSE NEIGHBOUR: 'it returns false'. Refute it at one input. -/
def fnExactVisibleWrong : ChangeSpec := { name := "fnExactVisible", fn := fun _ => fun
  | [d1, d2, d3, d4] => { results := [.lit (.bool false)], args := [d1, d2, d3, d4] }
  | _ => none }
def FnExactVisibleWrongFalsely : Prop := fnExactVisibleRow.holds Try.pinned (OpenSpec.ofChange fnExactVisibleWrong)

/-- 'laws.FnExactHorizon': WHATEVER THE INPUT: true; the input reads as it did. -/
def fnExactHorizonSpec : ChangeSpec := { name := "fnExactHorizon", fn := fun _ => fun
  | [d1, d2] => { results := [.lit (.bool true)], args := [d1, d2] }
  | _ => none }
def fnExactHorizonRow : OpenClaim := { program := "ytemhmlikfiknlaa", sum := "52b70a489c5b97ff9e89eaf8d2fcc65b78c7cd826e973541e7579e2ff559f608", func := "loop.example/g00252/laws.FnExactHorizon", spec := "fnExactHorizon", apart := false }
def FnExactHorizonSaid : Prop := fnExactHorizonRow.holds Try.pinned (OpenSpec.ofChange fnExactHorizonSpec)

/-- ITS FALSE NEIGHBOUR: 'it returns false'. Refute it at one input. -/
def fnExactHorizonWrong : ChangeSpec := { name := "fnExactHorizon", fn := fun _ => fun
  | [d1, d2] => { results := [.lit (.bool false)], args := [d1, d2] }
  | _ => none }
def FnExactHorizonWrongFalsely : Prop := fnExactHorizonRow.holds Try.pinned (OpenSpec.ofChange fnExactHorizonWrong)

/-- 'laws.FnExactDead': WHATEVER THE INPUT: true; the input reads as it did. -/
def fnExactDeadSpec : ChangeSpec := { name := "fnExactDead", fn := fun _ => fun
  | [d1, d2, d3, d4] => { results := [.lit (.bool true)], args := [d1, d2, d3, d4] }
  | _ => none }
def fnExactDeadRow : OpenClaim := { program := "ytemhmlikfiknlaa", sum := "52b70a489c5b97ff9e89eaf8d2fcc65b78c7cd826e973541e7579e2ff559f608", func := "loop.example/g00252/laws.FnExactDead", spec := "fnExactDead", apart := false }
def FnExactDeadSaid : Prop := fnExactDeadRow.holds Try.pinned (OpenSpec.ofChange fnExactDeadSpec)

/-- ITS FALSE NEIGHBOUR: 'it returns false'. Refute it at one input. -/
def fnExactDeadWrong : ChangeSpec := { name := "fnExactDead", fn := fun _ => fun
  | [d1, d2, d3, d4] => { results := [.lit (.bool false)], args := [d1, d2, d3, d4] }
  | _ => none }
def FnExactDeadWrongFalsely : Prop := fnExactDeadRow.holds Try.pinned (OpenSpec.ofChange fnExactDeadWrong)

/- THE SECOND FORM. 'bulk': how many values and letters a reading holds, each counted each time it is reached (what is shared counts as often as it is met; a slice's spare places count too). A statement '..UptoSaid' is the law's where the arguments, and the package variables that the reading takes, are together of bulk at most 1048576: NARROWER than '..Said'. Prove '..Said' where nothing that the law and all that it calls make is longer than what came in: it says more and counts as full. Else prove '..UptoSaid'. A law counts once. -/
mutual
def uptoBulk {H : Type} : DataW H → Nat
  | .lit (.string bytes) => bytes.length + 1
  | .lit _ => 1
  | .nil => 1
  | .ptr d => uptoBulk d + 1
  | .slice elems spare => uptoBulkAll elems + uptoBulkAll spare + 1
  | .agg parts => uptoBulkAll parts + 1
  | .iface _ d => uptoBulk d + 1
  | .map entries => uptoBulkEntries entries + 1
  | .held _ => 1
def uptoBulkAll {H : Type} : List (DataW H) → Nat
  | [] => 0
  | d :: r => uptoBulk d + uptoBulkAll r
def uptoBulkEntries {H : Type} : List (Lit × DataW H) → Nat
  | [] => 0
  | x :: r => uptoBulkEntry x + uptoBulkEntries r
def uptoBulkEntry {H : Type} : Lit × DataW H → Nat
  | (.string bytes, d) => bytes.length + uptoBulk d + 1
  | (_, d) => uptoBulk d + 1
 end
def uptoSmall : (H : Type) → List (DataW H) → Bool := fun _ ds => decide (uptoBulkAll ds ≤ 1048576)
def OpenSpec.upto (s : _root_.Go.ChangeSpec) : _root_.Go.OpenSpec := { _root_.Go.OpenSpec.ofChange s with cond := some uptoSmall }

/-- 'laws.FnUnseen', WHERE WHAT IT READS IS OF BULK AT MOST 1048576: true; the input reads as it did. -/
def fnUnseenUptoRow : OpenClaim := { program := "ytemhmlikfiknlaa", sum := "52b70a489c5b97ff9e89eaf8d2fcc65b78c7cd826e973541e7579e2ff559f608", func := "loop.example/g00252/laws.FnUnseen", spec := "fnUnseen", apart := false, narrowed := true }
def FnUnseenUptoSaid : Prop := fnUnseenUptoRow.holds Try.pinned (OpenSpec.upto fnUnseenSpec)

/-- 'laws.FnExactSnapOk', WHERE WHAT IT READS IS OF BULK AT MOST 1048576: true; the input reads as it did. -/
def fnExactSnapOkUptoRow : OpenClaim := { program := "ytemhmlikfiknlaa", sum := "52b70a489c5b97ff9e89eaf8d2fcc65b78c7cd826e973541e7579e2ff559f608", func := "loop.example/g00252/laws.FnExactSnapOk", spec := "fnExactSnapOk", apart := false, narrowed := true }
def FnExactSnapOkUptoSaid : Prop := fnExactSnapOkUptoRow.holds Try.pinned (OpenSpec.upto fnExactSnapOkSpec)

/-- 'laws.FnExactSees', WHERE WHAT IT READS IS OF BULK AT MOST 1048576: true; the input reads as it did. -/
def fnExactSeesUptoRow : OpenClaim := { program := "ytemhmlikfiknlaa", sum := "52b70a489c5b97ff9e89eaf8d2fcc65b78c7cd826e973541e7579e2ff559f608", func := "loop.example/g00252/laws.FnExactSees", spec := "fnExactSees", apart := false, narrowed := true }
def FnExactSeesUptoSaid : Prop := fnExactSeesUptoRow.holds Try.pinned (OpenSpec.upto fnExactSeesSpec)

/-- 'laws.FnExactVisible', WHERE WHAT IT READS IS OF BULK AT MOST 1048576: true; the input reads as it did. -/
def fnExactVisibleUptoRow : OpenClaim := { program := "ytemhmlikfiknlaa", sum := "52b70a489c5b97ff9e89eaf8d2fcc65b78c7cd826e973541e7579e2ff559f608", func := "loop.example/g00252/laws.FnExactVisible", spec := "fnExactVisible", apart := false, narrowed := true }
def FnExactVisibleUptoSaid : Prop := fnExactVisibleUptoRow.holds Try.pinned (OpenSpec.upto fnExactVisibleSpec)

/-- 'laws.FnExactHorizon', WHERE WHAT IT READS IS OF BULK AT MOST 1048576: true; the input reads as it did. -/
def fnExactHorizonUptoRow : OpenClaim := { program := "ytemhmlikfiknlaa", sum := "52b70a489c5b97ff9e89eaf8d2fcc65b78c7cd826e973541e7579e2ff559f608", func := "loop.example/g00252/laws.FnExactHorizon", spec := "fnExactHorizon", apart := false, narrowed := true }
def FnExactHorizonUptoSaid : Prop := fnExactHorizonUptoRow.holds Try.pinned (OpenSpec.upto fnExactHorizonSpec)

/-- 'laws.FnExactDead', WHERE WHAT IT READS IS OF BULK AT MOST 1048576: true; the input reads as it did. -/
def fnExactDeadUptoRow : OpenClaim := { program := "ytemhmlikfiknlaa", sum := "52b70a489c5b97ff9e89eaf8d2fcc65b78c7cd826e973541e7579e2ff559f608", func := "loop.example/g00252/laws.FnExactDead", spec := "fnExactDead", apart := false, narrowed := true }
def FnExactDeadUptoSaid : Prop := fnExactDeadUptoRow.holds Try.pinned (OpenSpec.upto fnExactDeadSpec)

end Rows
end Go.Proofs.Ytemhmlikfiknlaa
