/-
  No cell of these rows narrows 'for every input' (looked for: loops, veiled, ifaces, maps, wideKeys, modest, calm, conditions, laid).
  DERIVED. THE GIVEN ROWS OF THIS SEAT. 8 by the template 'for every input the law returns true; each argument reads behind the call as it read before'; 0 by the template 'total and deterministic' (their statements: YtioefplkadpfnaaTotals.lean).
  GIVEN WITH THE SEED: the statements are not yours to turn. If you find one false, say at which input.
  Laid BY PROGRAM, IN A SANDBOX (cutbox-rows.mjs): the forced cells as the released guide's own fill.sh prints them over the translation 4295e695fbfec27d… (all of the seat's roots in one cut). By AI agents, Wed Nov 11 2026. No macro, syntax, notation, axiom, sorry.
-/
import Derived.Test.YtioefplkadpfnaaChecked
import GoSem.Claim
import GoSem.ClaimJoined
import GoSem.ClaimMapViews
import Derived.JoinedTies
import Derived.KernelRfl
namespace Go.Proofs.Ytioefplkadpfnaa
/- THE CELL 'sum', in the pinned program and in every row, IS THE sha256 OF THE DUMP (.gsa) THAT YtioefplkadpfnaaProg.lean LOADS. Nothing in Lean hashes anything: it is a label: what it is worth is what the hold of that sum in a sandbox is worth. -/
noncomputable def Try.pinned : Pinned := { name := "ytioefplkadpfnaa", sum := "4295e695fbfec27deb39971d3588100274b0fc9654f2a96e55ded30c5db453a3", checked := Try.checked }
namespace Rows
def none {H : Type} : Left H := { results := [], args := [] }

/-- 'laws.FnPages': WHATEVER THE INPUT: true; the input reads as it did. -/
def fnPagesSpec : ChangeSpec := { name := "fnPages", fn := fun _ => fun
  | [d] => { results := [.lit (.bool true)], args := [d] }
  | _ => none }
def fnPagesRow : OpenClaim := { program := "ytioefplkadpfnaa", sum := "4295e695fbfec27deb39971d3588100274b0fc9654f2a96e55ded30c5db453a3", func := "loop.example/g00252/laws.FnPages", spec := "fnPages", unfollowed := true, recurses := true, apart := false }
def FnPagesSaid : Prop := fnPagesRow.holds Try.pinned (OpenSpec.ofChange fnPagesSpec)

/-- ITS FALSE NEIGHBOUR: 'it returns false'. Refute it at one input. -/
def fnPagesWrong : ChangeSpec := { name := "fnPages", fn := fun _ => fun
  | [d] => { results := [.lit (.bool false)], args := [d] }
  | _ => none }
def FnPagesWrongFalsely : Prop := fnPagesRow.holds Try.pinned (OpenSpec.ofChange fnPagesWrong)

/-- 'laws.FnTorn': WHATEVER THE INPUT: true; the input reads as it did. -/
def fnTornSpec : ChangeSpec := { name := "fnTorn", fn := fun _ => fun
  | [d] => { results := [.lit (.bool true)], args := [d] }
  | _ => none }
def fnTornRow : OpenClaim := { program := "ytioefplkadpfnaa", sum := "4295e695fbfec27deb39971d3588100274b0fc9654f2a96e55ded30c5db453a3", func := "loop.example/g00252/laws.FnTorn", spec := "fnTorn", unfollowed := true, recurses := true, apart := false }
def FnTornSaid : Prop := fnTornRow.holds Try.pinned (OpenSpec.ofChange fnTornSpec)

/-- ITS FALSE NEIGHBOUR: 'it returns false'. Refute it at one input. -/
def fnTornWrong : ChangeSpec := { name := "fnTorn", fn := fun _ => fun
  | [d] => { results := [.lit (.bool false)], args := [d] }
  | _ => none }
def FnTornWrongFalsely : Prop := fnTornRow.holds Try.pinned (OpenSpec.ofChange fnTornWrong)

/-- 'laws.FnStatuses': WHATEVER THE INPUT: true; the input reads as it did. -/
def fnStatusesSpec : ChangeSpec := { name := "fnStatuses", fn := fun _ => fun
  | [d] => { results := [.lit (.bool true)], args := [d] }
  | _ => none }
def fnStatusesRow : OpenClaim := { program := "ytioefplkadpfnaa", sum := "4295e695fbfec27deb39971d3588100274b0fc9654f2a96e55ded30c5db453a3", func := "loop.example/g00252/laws.FnStatuses", spec := "fnStatuses", apart := false }
def FnStatusesSaid : Prop := fnStatusesRow.holds Try.pinned (OpenSpec.ofChange fnStatusesSpec)

/-- ITS FALSE NEIGHBOUR: 'it returns false'. Refute it at one input. -/
def fnStatusesWrong : ChangeSpec := { name := "fnStatuses", fn := fun _ => fun
  | [d] => { results := [.lit (.bool false)], args := [d] }
  | _ => none }
def FnStatusesWrongFalsely : Prop := fnStatusesRow.holds Try.pinned (OpenSpec.ofChange fnStatusesWrong)

/-- 'laws.FnExactStatusOf': WHATEVER THE INPUT: true; the input reads as it did. -/
def fnExactStatusOfSpec : ChangeSpec := { name := "fnExactStatusOf", fn := fun _ => fun
  | [d1, d2] => { results := [.lit (.bool true)], args := [d1, d2] }
  | _ => none }
def fnExactStatusOfRow : OpenClaim := { program := "ytioefplkadpfnaa", sum := "4295e695fbfec27deb39971d3588100274b0fc9654f2a96e55ded30c5db453a3", func := "loop.example/g00252/laws.FnExactStatusOf", spec := "fnExactStatusOf", apart := false }
def FnExactStatusOfSaid : Prop := fnExactStatusOfRow.holds Try.pinned (OpenSpec.ofChange fnExactStatusOfSpec)

/-- ITS FALSE NEIGHBOUR: 'it returns false'. Refute it at one input. -/
def fnExactStatusOfWrong : ChangeSpec := { name := "fnExactStatusOf", fn := fun _ => fun
  | [d1, d2] => { results := [.lit (.bool false)], args := [d1, d2] }
  | _ => none }
def FnExactStatusOfWrongFalsely : Prop := fnExactStatusOfRow.holds Try.pinned (OpenSpec.ofChange fnExactStatusOfWrong)

/-- 'laws.FnExactStatusSet': WHATEVER THE INPUT: true; the input reads as it did. -/
def fnExactStatusSetSpec : ChangeSpec := { name := "fnExactStatusSet", fn := fun _ => fun
  | [d1, d2, d3] => { results := [.lit (.bool true)], args := [d1, d2, d3] }
  | _ => none }
def fnExactStatusSetRow : OpenClaim := { program := "ytioefplkadpfnaa", sum := "4295e695fbfec27deb39971d3588100274b0fc9654f2a96e55ded30c5db453a3", func := "loop.example/g00252/laws.FnExactStatusSet", spec := "fnExactStatusSet", apart := false }
def FnExactStatusSetSaid : Prop := fnExactStatusSetRow.holds Try.pinned (OpenSpec.ofChange fnExactStatusSetSpec)

/-- ITS FALSE NEIGHBOUR: 'it returns false'. Refute it at one input. -/
def fnExactStatusSetWrong : ChangeSpec := { name := "fnExactStatusSet", fn := fun _ => fun
  | [d1, d2, d3] => { results := [.lit (.bool false)], args := [d1, d2, d3] }
  | _ => none }
def FnExactStatusSetWrongFalsely : Prop := fnExactStatusSetRow.holds Try.pinned (OpenSpec.ofChange fnExactStatusSetWrong)

/-- 'laws.FnExactStatusSettle': WHATEVER THE INPUT: true; the input reads as it did. -/
def fnExactStatusSettleSpec : ChangeSpec := { name := "fnExactStatusSettle", fn := fun _ => fun
  | [d1, d2] => { results := [.lit (.bool true)], args := [d1, d2] }
  | _ => none }
def fnExactStatusSettleRow : OpenClaim := { program := "ytioefplkadpfnaa", sum := "4295e695fbfec27deb39971d3588100274b0fc9654f2a96e55ded30c5db453a3", func := "loop.example/g00252/laws.FnExactStatusSettle", spec := "fnExactStatusSettle", apart := false }
def FnExactStatusSettleSaid : Prop := fnExactStatusSettleRow.holds Try.pinned (OpenSpec.ofChange fnExactStatusSettleSpec)

/-- ITS FALSE NEIGHBOUR: 'it returns false'. Refute it at one input. -/
def fnExactStatusSettleWrong : ChangeSpec := { name := "fnExactStatusSettle", fn := fun _ => fun
  | [d1, d2] => { results := [.lit (.bool false)], args := [d1, d2] }
  | _ => none }
def FnExactStatusSettleWrongFalsely : Prop := fnExactStatusSettleRow.holds Try.pinned (OpenSpec.ofChange fnExactStatusSettleWrong)

/-- 'laws.FnExactStatusBytes': WHATEVER THE INPUT: true; the input reads as it did. -/
def fnExactStatusBytesSpec : ChangeSpec := { name := "fnExactStatusBytes", fn := fun _ => fun
  | [d] => { results := [.lit (.bool true)], args := [d] }
  | _ => none }
def fnExactStatusBytesRow : OpenClaim := { program := "ytioefplkadpfnaa", sum := "4295e695fbfec27deb39971d3588100274b0fc9654f2a96e55ded30c5db453a3", func := "loop.example/g00252/laws.FnExactStatusBytes", spec := "fnExactStatusBytes", apart := false }
def FnExactStatusBytesSaid : Prop := fnExactStatusBytesRow.holds Try.pinned (OpenSpec.ofChange fnExactStatusBytesSpec)

/-- ITS FALSE NEIGHBOUR: 'it returns false'. Refute it at one input. -/
def fnExactStatusBytesWrong : ChangeSpec := { name := "fnExactStatusBytes", fn := fun _ => fun
  | [d] => { results := [.lit (.bool false)], args := [d] }
  | _ => none }
def FnExactStatusBytesWrongFalsely : Prop := fnExactStatusBytesRow.holds Try.pinned (OpenSpec.ofChange fnExactStatusBytesWrong)

/-- 'laws.FnExactStatusRead': WHATEVER THE INPUT: true; the input reads as it did. -/
def fnExactStatusReadSpec : ChangeSpec := { name := "fnExactStatusRead", fn := fun _ => fun
  | [d1, d2] => { results := [.lit (.bool true)], args := [d1, d2] }
  | _ => none }
def fnExactStatusReadRow : OpenClaim := { program := "ytioefplkadpfnaa", sum := "4295e695fbfec27deb39971d3588100274b0fc9654f2a96e55ded30c5db453a3", func := "loop.example/g00252/laws.FnExactStatusRead", spec := "fnExactStatusRead", apart := false }
def FnExactStatusReadSaid : Prop := fnExactStatusReadRow.holds Try.pinned (OpenSpec.ofChange fnExactStatusReadSpec)

/-- ITS FALSE NEIGHBOUR: 'it returns false'. Refute it at one input. -/
def fnExactStatusReadWrong : ChangeSpec := { name := "fnExactStatusRead", fn := fun _ => fun
  | [d1, d2] => { results := [.lit (.bool false)], args := [d1, d2] }
  | _ => none }
def FnExactStatusReadWrongFalsely : Prop := fnExactStatusReadRow.holds Try.pinned (OpenSpec.ofChange fnExactStatusReadWrong)

/- THE SECOND FORM. 'bulk': how many values and letters a reading holds, each counted each time it is reached (what is shared counts as often as it is met; a slice's spare places count too). A statement '..UptoSaid' is the law's where the arguments, and the package variables that the reading takes, are together of bulk at most 1048576: NARROWER than '..Said'. Prove '..Said' where nothing that the law and all that it calls make is longer than what came in: it says more and counts as full. Else prove '..UptoSaid'. A law counts once. -/
mutual
def uptoBulk {H : Type} : DataW H → Nat
  | .lit (.string bytes) => bytes.length + 1
  | .lit _ => 1
  | .nil => 1
  | .ptr d => uptoBulk d + 1
  | .slice elems spare => uptoBulkAll elems + uptoBulkAll spare + 1
  | .agg parts => uptoBulkAll parts + 1
  | .iface _ d => uptoBulk d + 1
  | .map entries => uptoBulkEntries entries + 1
  | .held _ => 1
def uptoBulkAll {H : Type} : List (DataW H) → Nat
  | [] => 0
  | d :: r => uptoBulk d + uptoBulkAll r
def uptoBulkEntries {H : Type} : List (Lit × DataW H) → Nat
  | [] => 0
  | x :: r => uptoBulkEntry x + uptoBulkEntries r
def uptoBulkEntry {H : Type} : Lit × DataW H → Nat
  | (.string bytes, d) => bytes.length + uptoBulk d + 1
  | (_, d) => uptoBulk d + 1
 end
def uptoSmall : (H : Type) → List (DataW H) → Bool := fun _ ds => decide (uptoBulkAll ds ≤ 1048576)
def OpenSpec.upto (s : _root_.Go.ChangeSpec) : _root_.Go.OpenSpec := { _root_.Go.OpenSpec.ofChange s with cond := some uptoSmall }

/-- 'laws.FnPages', WHERE WHAT IT READS IS OF BULK AT MOST 1048576: true; the input reads as it did. -/
def fnPagesUptoRow : OpenClaim := { program := "ytioefplkadpfnaa", sum := "4295e695fbfec27deb39971d3588100274b0fc9654f2a96e55ded30c5db453a3", func := "loop.example/g00252/laws.FnPages", spec := "fnPages", unfollowed := true, recurses := true, apart := false, narrowed := true }
def FnPagesUptoSaid : Prop := fnPagesUptoRow.holds Try.pinned (OpenSpec.upto fnPagesSpec)

/-- 'laws.FnTorn', WHERE WHAT IT READS IS OF BULK AT MOST 1048576: true; the input reads as it did. -/
def fnTornUptoRow : OpenClaim := { program := "ytioefplkadpfnaa", sum := "4295e695fbfec27deb39971d3588100274b0fc9654f2a96e55ded30c5db453a3", func := "loop.example/g00252/laws.FnTorn", spec := "fnTorn", unfollowed := true, recurses := true, apart := false, narrowed := true }
def FnTornUptoSaid : Prop := fnTornUptoRow.holds Try.pinned (OpenSpec.upto fnTornSpec)

/-- 'laws.FnStatuses', WHERE WHAT IT READS IS OF BULK AT MOST 1048576: true; the input reads as it did. -/
def fnStatusesUptoRow : OpenClaim := { program := "ytioefplkadpfnaa", sum := "4295e695fbfec27deb39971d3588100274b0fc9654f2a96e55ded30c5db453a3", func := "loop.example/g00252/laws.FnStatuses", spec := "fnStatuses", apart := false, narrowed := true }
def FnStatusesUptoSaid : Prop := fnStatusesUptoRow.holds Try.pinned (OpenSpec.upto fnStatusesSpec)

/-- 'laws.FnExactStatusOf', WHERE WHAT IT READS IS OF BULK AT MOST 1048576: true; the input reads as it did. -/
def fnExactStatusOfUptoRow : OpenClaim := { program := "ytioefplkadpfnaa", sum := "4295e695fbfec27deb39971d3588100274b0fc9654f2a96e55ded30c5db453a3", func := "loop.example/g00252/laws.FnExactStatusOf", spec := "fnExactStatusOf", apart := false, narrowed := true }
def FnExactStatusOfUptoSaid : Prop := fnExactStatusOfUptoRow.holds Try.pinned (OpenSpec.upto fnExactStatusOfSpec)

/-- 'laws.FnExactStatusSet', WHERE WHAT IT READS IS OF BULK AT MOST 1048576: true; the input reads as it did. -/
def fnExactStatusSetUptoRow : OpenClaim := { program := "ytioefplkadpfnaa", sum := "4295e695fbfec27deb39971d3588100274b0fc9654f2a96e55ded30c5db453a3", func := "loop.example/g00252/laws.FnExactStatusSet", spec := "fnExactStatusSet", apart := false, narrowed := true }
def FnExactStatusSetUptoSaid : Prop := fnExactStatusSetUptoRow.holds Try.pinned (OpenSpec.upto fnExactStatusSetSpec)

/-- 'laws.FnExactStatusSettle', WHERE WHAT IT READS IS OF BULK AT MOST 1048576: true; the input reads as it did. -/
def fnExactStatusSettleUptoRow : OpenClaim := { program := "ytioefplkadpfnaa", sum := "4295e695fbfec27deb39971d3588100274b0fc9654f2a96e55ded30c5db453a3", func := "loop.example/g00252/laws.FnExactStatusSettle", spec := "fnExactStatusSettle", apart := false, narrowed := true }
def FnExactStatusSettleUptoSaid : Prop := fnExactStatusSettleUptoRow.holds Try.pinned (OpenSpec.upto fnExactStatusSettleSpec)

/-- 'laws.FnExactStatusBytes', WHERE WHAT IT READS IS OF BULK AT MOST 1048576: true; the input reads as it did. -/
def fnExactStatusBytesUptoRow : OpenClaim := { program := "ytioefplkadpfnaa", sum := "4295e695fbfec27deb39971d3588100274b0fc9654f2a96e55ded30c5db453a3", func := "loop.example/g00252/laws.FnExactStatusBytes", spec := "fnExactStatusBytes", apart := false, narrowed := true }
def FnExactStatusBytesUptoSaid : Prop := fnExactStatusBytesUptoRow.holds Try.pinned (OpenSpec.upto fnExactStatusBytesSpec)

/-- 'laws.FnExactStatusRead', WHERE WHAT IT READS IS OF BULK AT MOST 1048576: true; the input reads as it did. -/
def fnExactStatusReadUptoRow : OpenClaim := { program := "ytioefplkadpfnaa", sum := "4295e695fbfec27deb39971d3588100274b0fc9654f2a96e55ded30c5db453a3", func := "loop.example/g00252/laws.FnExactStatusRead", spec := "fnExactStatusRead", apart := false, narrowed := true }
def FnExactStatusReadUptoSaid : Prop := fnExactStatusReadUptoRow.holds Try.pinned (OpenSpec.upto fnExactStatusReadSpec)

end Rows
end Go.Proofs.Ytioefplkadpfnaa
