/-
  NARROWER THAN 'FOR EVERY INPUT', by the rows' own cells (each row's printed sentence says how): FnDisks: ifaces, laid · FnFuses: ifaces, laid · FnExactDiskWrite: ifaces, laid · FnExactDiskSync: ifaces, laid.
  DERIVED. THE GIVEN ROWS OF THIS SEAT. 4 by the template 'for every input the law returns true; each argument reads behind the call as it read before'; 0 by the template 'total and deterministic' (their statements: YtnnnehjlegjejaaDoorTotals.lean).
  GIVEN WITH THE SEED: the statements are not yours to turn. If you find one false, say at which input.
  Laid BY PROGRAM, IN A SANDBOX (cutbox-rows.mjs): the forced cells as the released guide's own fill.sh prints them over the translation d9aa51cf924e846d… (all of the seat's roots in one cut). By AI agents, Wed Nov 11 2026. No macro, syntax, notation, axiom, sorry.
-/
import Derived.Test.YtnnnehjlegjejaaDoorChecked
import GoSem.Claim
import GoSem.ClaimJoined
import GoSem.ClaimMapViews
import Derived.JoinedTies
import Derived.KernelRfl
namespace Go.Proofs.YtnnnehjlegjejaaDoor
/- THE CELL 'sum', in the pinned program and in every row, IS THE sha256 OF THE DUMP (.gsa) THAT YtnnnehjlegjejaaDoorProg.lean LOADS. Nothing in Lean hashes anything: it is a label: what it is worth is what the hold of that sum in a sandbox is worth. -/
noncomputable def Tryd.pinned : Pinned := { name := "ytnnnehjlegjejaadoor", sum := "d9aa51cf924e846da7f89dc1d1f068536fa01537a323352960ea266b21bbf6bb", checked := Tryd.checked }
namespace Rows
def none {H : Type} : Left H := { results := [], args := [] }

/- WHAT THE LISTED PACKAGE-LEVEL VARIABLES READ AS WHEN THE CALL BEGINS. Each datum BY PROGRAM (the guide's laid-datum.mjs) off the statement by which the dump's own 'gosem.cut.vars' lays the variable. In a bare row this is a premise. The card (YtnnnehjlegjejaaDoorCards.lean) ties it to the program's text. -/
def laid_loop_example_g00252_impl_errDiskEnded {H : Type} : DataW H := .iface "*errors.errorString" (.ptr (.agg [.lit (.string [116, 104, 101, 32, 100, 105, 115, 107, 32, 104, 97, 115, 32, 101, 110, 100, 101, 100])]))
def laid_loop_example_g00252_impl_errDiskFull {H : Type} : DataW H := .iface "*errors.errorString" (.ptr (.agg [.lit (.string [116, 111, 111, 32, 109, 97, 110, 121, 32, 119, 114, 105, 116, 101, 115, 32, 119, 97, 105, 116])]))

/-- 'laws.FnDisks': WHATEVER THE INPUT: true; the input reads as it did. -/
def fnDisksSpec : ChangeSpec := { name := "fnDisks", vars := ["loop.example/g00252/impl.errDiskFull", "loop.example/g00252/impl.errDiskEnded"], fn := fun _ => fun
  | [d, g1, g2] => { results := [.lit (.bool true)], args := [d], vars := [g1, g2] }
  | _ => none }
def fnDisksRow : OpenClaim := { program := "ytnnnehjlegjejaadoor", sum := "d9aa51cf924e846da7f89dc1d1f068536fa01537a323352960ea266b21bbf6bb", func := "loop.example/g00252/laws.FnDisks", spec := "fnDisks", inPlace := ["internal/reflectlite.TypeOf"], unfollowed := true, recurses := true, named := ["loop.example/g00252/impl.errDiskFull", "loop.example/g00252/impl.errDiskEnded"], ifaces := true, apart := false, laid := [("loop.example/g00252/impl.errDiskEnded", laid_loop_example_g00252_impl_errDiskEnded), ("loop.example/g00252/impl.errDiskFull", laid_loop_example_g00252_impl_errDiskFull)] }
def FnDisksSaid : Prop := fnDisksRow.holds Tryd.pinned (OpenSpec.ofChange fnDisksSpec)

/-- ITS FALSE NEIGHBOUR: 'it returns false'. Refute it at one input. -/
def fnDisksWrong : ChangeSpec := { name := "fnDisks", vars := ["loop.example/g00252/impl.errDiskFull", "loop.example/g00252/impl.errDiskEnded"], fn := fun _ => fun
  | [d, g1, g2] => { results := [.lit (.bool false)], args := [d], vars := [g1, g2] }
  | _ => none }
def FnDisksWrongFalsely : Prop := fnDisksRow.holds Tryd.pinned (OpenSpec.ofChange fnDisksWrong)

/-- 'laws.FnFuses': WHATEVER THE INPUT: true; the input reads as it did. -/
def fnFusesSpec : ChangeSpec := { name := "fnFuses", vars := ["loop.example/g00252/impl.errDiskEnded", "loop.example/g00252/impl.errDiskFull"], fn := fun _ => fun
  | [d, g1, g2] => { results := [.lit (.bool true)], args := [d], vars := [g1, g2] }
  | _ => none }
def fnFusesRow : OpenClaim := { program := "ytnnnehjlegjejaadoor", sum := "d9aa51cf924e846da7f89dc1d1f068536fa01537a323352960ea266b21bbf6bb", func := "loop.example/g00252/laws.FnFuses", spec := "fnFuses", inPlace := ["internal/reflectlite.TypeOf"], unfollowed := true, recurses := true, named := ["loop.example/g00252/impl.errDiskEnded", "loop.example/g00252/impl.errDiskFull"], ifaces := true, apart := false, laid := [("loop.example/g00252/impl.errDiskEnded", laid_loop_example_g00252_impl_errDiskEnded), ("loop.example/g00252/impl.errDiskFull", laid_loop_example_g00252_impl_errDiskFull)] }
def FnFusesSaid : Prop := fnFusesRow.holds Tryd.pinned (OpenSpec.ofChange fnFusesSpec)

/-- ITS FALSE NEIGHBOUR: 'it returns false'. Refute it at one input. -/
def fnFusesWrong : ChangeSpec := { name := "fnFuses", vars := ["loop.example/g00252/impl.errDiskEnded", "loop.example/g00252/impl.errDiskFull"], fn := fun _ => fun
  | [d, g1, g2] => { results := [.lit (.bool false)], args := [d], vars := [g1, g2] }
  | _ => none }
def FnFusesWrongFalsely : Prop := fnFusesRow.holds Tryd.pinned (OpenSpec.ofChange fnFusesWrong)

/-- 'laws.FnExactDiskWrite': WHATEVER THE INPUT: true; the input reads as it did. -/
def fnExactDiskWriteSpec : ChangeSpec := { name := "fnExactDiskWrite", vars := ["loop.example/g00252/impl.errDiskFull", "loop.example/g00252/impl.errDiskEnded"], fn := fun _ => fun
  | [d1, d2, d3, g1, g2] => { results := [.lit (.bool true)], args := [d1, d2, d3], vars := [g1, g2] }
  | _ => none }
def fnExactDiskWriteRow : OpenClaim := { program := "ytnnnehjlegjejaadoor", sum := "d9aa51cf924e846da7f89dc1d1f068536fa01537a323352960ea266b21bbf6bb", func := "loop.example/g00252/laws.FnExactDiskWrite", spec := "fnExactDiskWrite", inPlace := ["internal/reflectlite.TypeOf"], unfollowed := true, recurses := true, named := ["loop.example/g00252/impl.errDiskFull", "loop.example/g00252/impl.errDiskEnded"], ifaces := true, apart := false, laid := [("loop.example/g00252/impl.errDiskEnded", laid_loop_example_g00252_impl_errDiskEnded), ("loop.example/g00252/impl.errDiskFull", laid_loop_example_g00252_impl_errDiskFull)] }
def FnExactDiskWriteSaid : Prop := fnExactDiskWriteRow.holds Tryd.pinned (OpenSpec.ofChange fnExactDiskWriteSpec)

/-- ITS FALSE NEIGHBOUR: 'it returns false'. Refute it at one input. -/
def fnExactDiskWriteWrong : ChangeSpec := { name := "fnExactDiskWrite", vars := ["loop.example/g00252/impl.errDiskFull", "loop.example/g00252/impl.errDiskEnded"], fn := fun _ => fun
  | [d1, d2, d3, g1, g2] => { results := [.lit (.bool false)], args := [d1, d2, d3], vars := [g1, g2] }
  | _ => none }
def FnExactDiskWriteWrongFalsely : Prop := fnExactDiskWriteRow.holds Tryd.pinned (OpenSpec.ofChange fnExactDiskWriteWrong)

/-- 'laws.FnExactDiskSync': WHATEVER THE INPUT: true; the input reads as it did. -/
def fnExactDiskSyncSpec : ChangeSpec := { name := "fnExactDiskSync", vars := ["loop.example/g00252/impl.errDiskEnded", "loop.example/g00252/impl.errDiskFull"], fn := fun _ => fun
  | [d, g1, g2] => { results := [.lit (.bool true)], args := [d], vars := [g1, g2] }
  | _ => none }
def fnExactDiskSyncRow : OpenClaim := { program := "ytnnnehjlegjejaadoor", sum := "d9aa51cf924e846da7f89dc1d1f068536fa01537a323352960ea266b21bbf6bb", func := "loop.example/g00252/laws.FnExactDiskSync", spec := "fnExactDiskSync", inPlace := ["internal/reflectlite.TypeOf"], unfollowed := true, recurses := true, named := ["loop.example/g00252/impl.errDiskEnded", "loop.example/g00252/impl.errDiskFull"], ifaces := true, apart := false, laid := [("loop.example/g00252/impl.errDiskEnded", laid_loop_example_g00252_impl_errDiskEnded), ("loop.example/g00252/impl.errDiskFull", laid_loop_example_g00252_impl_errDiskFull)] }
def FnExactDiskSyncSaid : Prop := fnExactDiskSyncRow.holds Tryd.pinned (OpenSpec.ofChange fnExactDiskSyncSpec)

/-- ITS FALSE NEIGHBOUR: 'it returns false'. Refute it at one input. -/
def fnExactDiskSyncWrong : ChangeSpec := { name := "fnExactDiskSync", vars := ["loop.example/g00252/impl.errDiskEnded", "loop.example/g00252/impl.errDiskFull"], fn := fun _ => fun
  | [d, g1, g2] => { results := [.lit (.bool false)], args := [d], vars := [g1, g2] }
  | _ => none }
def FnExactDiskSyncWrongFalsely : Prop := fnExactDiskSyncRow.holds Tryd.pinned (OpenSpec.ofChange fnExactDiskSyncWrong)

/- THE SECOND FORM. 'bulk': how many values and letters a reading holds, each counted each time it is reached (what is shared counts as often as it is met; a slice's spare places count too). A statement '..UptoSaid' is the law's where the arguments, and the package variables that the reading takes, are together of bulk at most 1048576: NARROWER than '..Said'. Prove '..Said' where nothing that the law and all that it calls make is longer than what came in: it says more and counts as full. Else prove '..UptoSaid'. A law counts once. -/
mutual
def uptoBulk {H : Type} : DataW H → Nat
  | .lit (.string bytes) => bytes.length + 1
  | .lit _ => 1
  | .nil => 1
  | .ptr d => uptoBulk d + 1
  | .slice elems spare => uptoBulkAll elems + uptoBulkAll spare + 1
  | .agg parts => uptoBulkAll parts + 1
  | .iface _ d => uptoBulk d + 1
  | .map entries => uptoBulkEntries entries + 1
  | .held _ => 1
def uptoBulkAll {H : Type} : List (DataW H) → Nat
  | [] => 0
  | d :: r => uptoBulk d + uptoBulkAll r
def uptoBulkEntries {H : Type} : List (Lit × DataW H) → Nat
  | [] => 0
  | x :: r => uptoBulkEntry x + uptoBulkEntries r
def uptoBulkEntry {H : Type} : Lit × DataW H → Nat
  | (.string bytes, d) => bytes.length + uptoBulk d + 1
  | (_, d) => uptoBulk d + 1
 end
def uptoSmall : (H : Type) → List (DataW H) → Bool := fun _ ds => decide (uptoBulkAll ds ≤ 1048576)
def OpenSpec.upto (s : _root_.Go.ChangeSpec) : _root_.Go.OpenSpec := { _root_.Go.OpenSpec.ofChange s with cond := some uptoSmall }

/-- 'laws.FnDisks', WHERE WHAT IT READS IS OF BULK AT MOST 1048576: true; the input reads as it did. -/
def fnDisksUptoRow : OpenClaim := { program := "ytnnnehjlegjejaadoor", sum := "d9aa51cf924e846da7f89dc1d1f068536fa01537a323352960ea266b21bbf6bb", func := "loop.example/g00252/laws.FnDisks", spec := "fnDisks", inPlace := ["internal/reflectlite.TypeOf"], unfollowed := true, recurses := true, named := ["loop.example/g00252/impl.errDiskFull", "loop.example/g00252/impl.errDiskEnded"], ifaces := true, apart := false, laid := [("loop.example/g00252/impl.errDiskEnded", laid_loop_example_g00252_impl_errDiskEnded), ("loop.example/g00252/impl.errDiskFull", laid_loop_example_g00252_impl_errDiskFull)], narrowed := true }
def FnDisksUptoSaid : Prop := fnDisksUptoRow.holds Tryd.pinned (OpenSpec.upto fnDisksSpec)

/-- 'laws.FnFuses', WHERE WHAT IT READS IS OF BULK AT MOST 1048576: true; the input reads as it did. -/
def fnFusesUptoRow : OpenClaim := { program := "ytnnnehjlegjejaadoor", sum := "d9aa51cf924e846da7f89dc1d1f068536fa01537a323352960ea266b21bbf6bb", func := "loop.example/g00252/laws.FnFuses", spec := "fnFuses", inPlace := ["internal/reflectlite.TypeOf"], unfollowed := true, recurses := true, named := ["loop.example/g00252/impl.errDiskEnded", "loop.example/g00252/impl.errDiskFull"], ifaces := true, apart := false, laid := [("loop.example/g00252/impl.errDiskEnded", laid_loop_example_g00252_impl_errDiskEnded), ("loop.example/g00252/impl.errDiskFull", laid_loop_example_g00252_impl_errDiskFull)], narrowed := true }
def FnFusesUptoSaid : Prop := fnFusesUptoRow.holds Tryd.pinned (OpenSpec.upto fnFusesSpec)

/-- 'laws.FnExactDiskWrite', WHERE WHAT IT READS IS OF BULK AT MOST 1048576: true; the input reads as it did. -/
def fnExactDiskWriteUptoRow : OpenClaim := { program := "ytnnnehjlegjejaadoor", sum := "d9aa51cf924e846da7f89dc1d1f068536fa01537a323352960ea266b21bbf6bb", func := "loop.example/g00252/laws.FnExactDiskWrite", spec := "fnExactDiskWrite", inPlace := ["internal/reflectlite.TypeOf"], unfollowed := true, recurses := true, named := ["loop.example/g00252/impl.errDiskFull", "loop.example/g00252/impl.errDiskEnded"], ifaces := true, apart := false, laid := [("loop.example/g00252/impl.errDiskEnded", laid_loop_example_g00252_impl_errDiskEnded), ("loop.example/g00252/impl.errDiskFull", laid_loop_example_g00252_impl_errDiskFull)], narrowed := true }
def FnExactDiskWriteUptoSaid : Prop := fnExactDiskWriteUptoRow.holds Tryd.pinned (OpenSpec.upto fnExactDiskWriteSpec)

/-- 'laws.FnExactDiskSync', WHERE WHAT IT READS IS OF BULK AT MOST 1048576: true; the input reads as it did. -/
def fnExactDiskSyncUptoRow : OpenClaim := { program := "ytnnnehjlegjejaadoor", sum := "d9aa51cf924e846da7f89dc1d1f068536fa01537a323352960ea266b21bbf6bb", func := "loop.example/g00252/laws.FnExactDiskSync", spec := "fnExactDiskSync", inPlace := ["internal/reflectlite.TypeOf"], unfollowed := true, recurses := true, named := ["loop.example/g00252/impl.errDiskEnded", "loop.example/g00252/impl.errDiskFull"], ifaces := true, apart := false, laid := [("loop.example/g00252/impl.errDiskEnded", laid_loop_example_g00252_impl_errDiskEnded), ("loop.example/g00252/impl.errDiskFull", laid_loop_example_g00252_impl_errDiskFull)], narrowed := true }
def FnExactDiskSyncUptoSaid : Prop := fnExactDiskSyncUptoRow.holds Tryd.pinned (OpenSpec.upto fnExactDiskSyncSpec)

end Rows
end Go.Proofs.YtnnnehjlegjejaaDoor
