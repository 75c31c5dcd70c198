/-
  No cell of these rows narrows 'for every input' (looked for: loops, veiled, ifaces, maps, wideKeys, modest, calm, conditions, laid).
  DERIVED. THE GIVEN ROWS OF THIS SEAT. 7 by the template 'for every input the law returns true; each argument reads behind the call as it read before'; 0 by the template 'total and deterministic' (their statements: YtebhipicfgnajaaGreatTotals.lean).
  GIVEN WITH THE SEED: the statements are not yours to turn. If you find one false, say at which input.
  Laid BY PROGRAM, IN A SANDBOX (cutbox-rows.mjs): the forced cells as the released guide's own fill.sh prints them over the translation eb008b633d7b692a… (all of the seat's roots in one cut). By AI agents, Wed Nov 11 2026. No macro, syntax, notation, axiom, sorry.
-/
import Derived.Test.YtebhipicfgnajaaGreatChecked
import GoSem.Claim
import GoSem.ClaimJoined
import GoSem.ClaimMapViews
import Derived.JoinedTies
import Derived.KernelRfl
namespace Go.Proofs.YtebhipicfgnajaaGreat
/- THE CELL 'sum', in the pinned program and in every row, IS THE sha256 OF THE DUMP (.gsa) THAT YtebhipicfgnajaaGreatProg.lean LOADS. Nothing in Lean hashes anything: it is a label: what it is worth is what the hold of that sum in a sandbox is worth. -/
noncomputable def Tryz.pinned : Pinned := { name := "ytebhipicfgnajaagreat", sum := "eb008b633d7b692a1e0d45b9d6fe80da42d6287208a5475a261c23c14e9f69c6", checked := Tryz.checked }
namespace Rows
def none {H : Type} : Left H := { results := [], args := [] }

/-- 'laws.FnVersions': WHATEVER THE INPUT: true; the input reads as it did. -/
def fnVersionsSpec : ChangeSpec := { name := "fnVersions", fn := fun _ => fun
  | [d] => { results := [.lit (.bool true)], args := [d] }
  | _ => none }
def fnVersionsRow : OpenClaim := { program := "ytebhipicfgnajaagreat", sum := "eb008b633d7b692a1e0d45b9d6fe80da42d6287208a5475a261c23c14e9f69c6", func := "loop.example/g00252/laws.FnVersions", spec := "fnVersions", inPlace := ["math.Float64frombits", "math.Float64bits"], unfollowed := true, recurses := true, apart := false }
def FnVersionsSaid : Prop := fnVersionsRow.holds Tryz.pinned (OpenSpec.ofChange fnVersionsSpec)

/-- ITS FALSE NEIGHBOUR: 'it returns false'. Refute it at one input. -/
def fnVersionsWrong : ChangeSpec := { name := "fnVersions", fn := fun _ => fun
  | [d] => { results := [.lit (.bool false)], args := [d] }
  | _ => none }
def FnVersionsWrongFalsely : Prop := fnVersionsRow.holds Tryz.pinned (OpenSpec.ofChange fnVersionsWrong)

/-- 'laws.FnHeaps': WHATEVER THE INPUT: true; the input reads as it did. -/
def fnHeapsSpec : ChangeSpec := { name := "fnHeaps", fn := fun _ => fun
  | [d] => { results := [.lit (.bool true)], args := [d] }
  | _ => none }
def fnHeapsRow : OpenClaim := { program := "ytebhipicfgnajaagreat", sum := "eb008b633d7b692a1e0d45b9d6fe80da42d6287208a5475a261c23c14e9f69c6", func := "loop.example/g00252/laws.FnHeaps", spec := "fnHeaps", inPlace := ["math.Float64frombits", "math.Float64bits"], unfollowed := true, recurses := true, apart := false }
def FnHeapsSaid : Prop := fnHeapsRow.holds Tryz.pinned (OpenSpec.ofChange fnHeapsSpec)

/-- ITS FALSE NEIGHBOUR: 'it returns false'. Refute it at one input. -/
def fnHeapsWrong : ChangeSpec := { name := "fnHeaps", fn := fun _ => fun
  | [d] => { results := [.lit (.bool false)], args := [d] }
  | _ => none }
def FnHeapsWrongFalsely : Prop := fnHeapsRow.holds Tryz.pinned (OpenSpec.ofChange fnHeapsWrong)

/-- 'laws.FnExactHeapVersions': WHATEVER THE INPUT: true; the input reads as it did. -/
def fnExactHeapVersionsSpec : ChangeSpec := { name := "fnExactHeapVersions", fn := fun _ => fun
  | [d1, d2] => { results := [.lit (.bool true)], args := [d1, d2] }
  | _ => none }
def fnExactHeapVersionsRow : OpenClaim := { program := "ytebhipicfgnajaagreat", sum := "eb008b633d7b692a1e0d45b9d6fe80da42d6287208a5475a261c23c14e9f69c6", func := "loop.example/g00252/laws.FnExactHeapVersions", spec := "fnExactHeapVersions", inPlace := ["math.Float64frombits", "math.Float64bits"], unfollowed := true, recurses := true, apart := false }
def FnExactHeapVersionsSaid : Prop := fnExactHeapVersionsRow.holds Tryz.pinned (OpenSpec.ofChange fnExactHeapVersionsSpec)

/-- ITS FALSE NEIGHBOUR: 'it returns false'. Refute it at one input. -/
def fnExactHeapVersionsWrong : ChangeSpec := { name := "fnExactHeapVersions", fn := fun _ => fun
  | [d1, d2] => { results := [.lit (.bool false)], args := [d1, d2] }
  | _ => none }
def FnExactHeapVersionsWrongFalsely : Prop := fnExactHeapVersionsRow.holds Tryz.pinned (OpenSpec.ofChange fnExactHeapVersionsWrong)

/-- 'laws.FnExactHeapPut': WHATEVER THE INPUT: true; the input reads as it did. -/
def fnExactHeapPutSpec : ChangeSpec := { name := "fnExactHeapPut", fn := fun _ => fun
  | [d1, d2, d3, d4, d5] => { results := [.lit (.bool true)], args := [d1, d2, d3, d4, d5] }
  | _ => none }
def fnExactHeapPutRow : OpenClaim := { program := "ytebhipicfgnajaagreat", sum := "eb008b633d7b692a1e0d45b9d6fe80da42d6287208a5475a261c23c14e9f69c6", func := "loop.example/g00252/laws.FnExactHeapPut", spec := "fnExactHeapPut", inPlace := ["math.Float64frombits", "math.Float64bits"], unfollowed := true, recurses := true, apart := false }
def FnExactHeapPutSaid : Prop := fnExactHeapPutRow.holds Tryz.pinned (OpenSpec.ofChange fnExactHeapPutSpec)

/-- ITS FALSE NEIGHBOUR: 'it returns false'. Refute it at one input. -/
def fnExactHeapPutWrong : ChangeSpec := { name := "fnExactHeapPut", fn := fun _ => fun
  | [d1, d2, d3, d4, d5] => { results := [.lit (.bool false)], args := [d1, d2, d3, d4, d5] }
  | _ => none }
def FnExactHeapPutWrongFalsely : Prop := fnExactHeapPutRow.holds Tryz.pinned (OpenSpec.ofChange fnExactHeapPutWrong)

/-- 'laws.FnExactHeapMark': WHATEVER THE INPUT: true; the input reads as it did. -/
def fnExactHeapMarkSpec : ChangeSpec := { name := "fnExactHeapMark", fn := fun _ => fun
  | [d1, d2, d3, d4, d5] => { results := [.lit (.bool true)], args := [d1, d2, d3, d4, d5] }
  | _ => none }
def fnExactHeapMarkRow : OpenClaim := { program := "ytebhipicfgnajaagreat", sum := "eb008b633d7b692a1e0d45b9d6fe80da42d6287208a5475a261c23c14e9f69c6", func := "loop.example/g00252/laws.FnExactHeapMark", spec := "fnExactHeapMark", inPlace := ["math.Float64frombits", "math.Float64bits"], unfollowed := true, recurses := true, apart := false }
def FnExactHeapMarkSaid : Prop := fnExactHeapMarkRow.holds Tryz.pinned (OpenSpec.ofChange fnExactHeapMarkSpec)

/-- ITS FALSE NEIGHBOUR: 'it returns false'. Refute it at one input. -/
def fnExactHeapMarkWrong : ChangeSpec := { name := "fnExactHeapMark", fn := fun _ => fun
  | [d1, d2, d3, d4, d5] => { results := [.lit (.bool false)], args := [d1, d2, d3, d4, d5] }
  | _ => none }
def FnExactHeapMarkWrongFalsely : Prop := fnExactHeapMarkRow.holds Tryz.pinned (OpenSpec.ofChange fnExactHeapMarkWrong)

/-- 'laws.FnExactHeapClear': WHATEVER THE INPUT: true; the input reads as it did. -/
def fnExactHeapClearSpec : ChangeSpec := { name := "fnExactHeapClear", fn := fun _ => fun
  | [d1, d2, d3, d4] => { results := [.lit (.bool true)], args := [d1, d2, d3, d4] }
  | _ => none }
def fnExactHeapClearRow : OpenClaim := { program := "ytebhipicfgnajaagreat", sum := "eb008b633d7b692a1e0d45b9d6fe80da42d6287208a5475a261c23c14e9f69c6", func := "loop.example/g00252/laws.FnExactHeapClear", spec := "fnExactHeapClear", inPlace := ["math.Float64frombits", "math.Float64bits"], unfollowed := true, recurses := true, apart := false }
def FnExactHeapClearSaid : Prop := fnExactHeapClearRow.holds Tryz.pinned (OpenSpec.ofChange fnExactHeapClearSpec)

/-- ITS FALSE NEIGHBOUR: 'it returns false'. Refute it at one input. -/
def fnExactHeapClearWrong : ChangeSpec := { name := "fnExactHeapClear", fn := fun _ => fun
  | [d1, d2, d3, d4] => { results := [.lit (.bool false)], args := [d1, d2, d3, d4] }
  | _ => none }
def FnExactHeapClearWrongFalsely : Prop := fnExactHeapClearRow.holds Tryz.pinned (OpenSpec.ofChange fnExactHeapClearWrong)

/-- 'laws.FnExactHeapDead': WHATEVER THE INPUT: true; the input reads as it did. -/
def fnExactHeapDeadSpec : ChangeSpec := { name := "fnExactHeapDead", fn := fun _ => fun
  | [d1, d2, d3] => { results := [.lit (.bool true)], args := [d1, d2, d3] }
  | _ => none }
def fnExactHeapDeadRow : OpenClaim := { program := "ytebhipicfgnajaagreat", sum := "eb008b633d7b692a1e0d45b9d6fe80da42d6287208a5475a261c23c14e9f69c6", func := "loop.example/g00252/laws.FnExactHeapDead", spec := "fnExactHeapDead", inPlace := ["math.Float64frombits", "math.Float64bits"], unfollowed := true, recurses := true, apart := false }
def FnExactHeapDeadSaid : Prop := fnExactHeapDeadRow.holds Tryz.pinned (OpenSpec.ofChange fnExactHeapDeadSpec)

/-- ITS FALSE NEIGHBOUR: 'it returns false'. Refute it at one input. -/
def fnExactHeapDeadWrong : ChangeSpec := { name := "fnExactHeapDead", fn := fun _ => fun
  | [d1, d2, d3] => { results := [.lit (.bool false)], args := [d1, d2, d3] }
  | _ => none }
def FnExactHeapDeadWrongFalsely : Prop := fnExactHeapDeadRow.holds Tryz.pinned (OpenSpec.ofChange fnExactHeapDeadWrong)

/- THE SECOND FORM. 'bulk': how many values and letters a reading holds, each counted each time it is reached (what is shared counts as often as it is met; a slice's spare places count too). A statement '..UptoSaid' is the law's where the arguments, and the package variables that the reading takes, are together of bulk at most 1048576: NARROWER than '..Said'. Prove '..Said' where nothing that the law and all that it calls make is longer than what came in: it says more and counts as full. Else prove '..UptoSaid'. A law counts once. -/
mutual
def uptoBulk {H : Type} : DataW H → Nat
  | .lit (.string bytes) => bytes.length + 1
  | .lit _ => 1
  | .nil => 1
  | .ptr d => uptoBulk d + 1
  | .slice elems spare => uptoBulkAll elems + uptoBulkAll spare + 1
  | .agg parts => uptoBulkAll parts + 1
  | .iface _ d => uptoBulk d + 1
  | .map entries => uptoBulkEntries entries + 1
  | .held _ => 1
def uptoBulkAll {H : Type} : List (DataW H) → Nat
  | [] => 0
  | d :: r => uptoBulk d + uptoBulkAll r
def uptoBulkEntries {H : Type} : List (Lit × DataW H) → Nat
  | [] => 0
  | x :: r => uptoBulkEntry x + uptoBulkEntries r
def uptoBulkEntry {H : Type} : Lit × DataW H → Nat
  | (.string bytes, d) => bytes.length + uptoBulk d + 1
  | (_, d) => uptoBulk d + 1
 end
def uptoSmall : (H : Type) → List (DataW H) → Bool := fun _ ds => decide (uptoBulkAll ds ≤ 1048576)
def OpenSpec.upto (s : _root_.Go.ChangeSpec) : _root_.Go.OpenSpec := { _root_.Go.OpenSpec.ofChange s with cond := some uptoSmall }

/-- 'laws.FnVersions', WHERE WHAT IT READS IS OF BULK AT MOST 1048576: true; the input reads as it did. -/
def fnVersionsUptoRow : OpenClaim := { program := "ytebhipicfgnajaagreat", sum := "eb008b633d7b692a1e0d45b9d6fe80da42d6287208a5475a261c23c14e9f69c6", func := "loop.example/g00252/laws.FnVersions", spec := "fnVersions", inPlace := ["math.Float64frombits", "math.Float64bits"], unfollowed := true, recurses := true, apart := false, narrowed := true }
def FnVersionsUptoSaid : Prop := fnVersionsUptoRow.holds Tryz.pinned (OpenSpec.upto fnVersionsSpec)

/-- 'laws.FnHeaps', WHERE WHAT IT READS IS OF BULK AT MOST 1048576: true; the input reads as it did. -/
def fnHeapsUptoRow : OpenClaim := { program := "ytebhipicfgnajaagreat", sum := "eb008b633d7b692a1e0d45b9d6fe80da42d6287208a5475a261c23c14e9f69c6", func := "loop.example/g00252/laws.FnHeaps", spec := "fnHeaps", inPlace := ["math.Float64frombits", "math.Float64bits"], unfollowed := true, recurses := true, apart := false, narrowed := true }
def FnHeapsUptoSaid : Prop := fnHeapsUptoRow.holds Tryz.pinned (OpenSpec.upto fnHeapsSpec)

/-- 'laws.FnExactHeapVersions', WHERE WHAT IT READS IS OF BULK AT MOST 1048576: true; the input reads as it did. -/
def fnExactHeapVersionsUptoRow : OpenClaim := { program := "ytebhipicfgnajaagreat", sum := "eb008b633d7b692a1e0d45b9d6fe80da42d6287208a5475a261c23c14e9f69c6", func := "loop.example/g00252/laws.FnExactHeapVersions", spec := "fnExactHeapVersions", inPlace := ["math.Float64frombits", "math.Float64bits"], unfollowed := true, recurses := true, apart := false, narrowed := true }
def FnExactHeapVersionsUptoSaid : Prop := fnExactHeapVersionsUptoRow.holds Tryz.pinned (OpenSpec.upto fnExactHeapVersionsSpec)

/-- 'laws.FnExactHeapPut', WHERE WHAT IT READS IS OF BULK AT MOST 1048576: true; the input reads as it did. -/
def fnExactHeapPutUptoRow : OpenClaim := { program := "ytebhipicfgnajaagreat", sum := "eb008b633d7b692a1e0d45b9d6fe80da42d6287208a5475a261c23c14e9f69c6", func := "loop.example/g00252/laws.FnExactHeapPut", spec := "fnExactHeapPut", inPlace := ["math.Float64frombits", "math.Float64bits"], unfollowed := true, recurses := true, apart := false, narrowed := true }
def FnExactHeapPutUptoSaid : Prop := fnExactHeapPutUptoRow.holds Tryz.pinned (OpenSpec.upto fnExactHeapPutSpec)

/-- 'laws.FnExactHeapMark', WHERE WHAT IT READS IS OF BULK AT MOST 1048576: true; the input reads as it did. -/
def fnExactHeapMarkUptoRow : OpenClaim := { program := "ytebhipicfgnajaagreat", sum := "eb008b633d7b692a1e0d45b9d6fe80da42d6287208a5475a261c23c14e9f69c6", func := "loop.example/g00252/laws.FnExactHeapMark", spec := "fnExactHeapMark", inPlace := ["math.Float64frombits", "math.Float64bits"], unfollowed := true, recurses := true, apart := false, narrowed := true }
def FnExactHeapMarkUptoSaid : Prop := fnExactHeapMarkUptoRow.holds Tryz.pinned (OpenSpec.upto fnExactHeapMarkSpec)

/-- 'laws.FnExactHeapClear', WHERE WHAT IT READS IS OF BULK AT MOST 1048576: true; the input reads as it did. -/
def fnExactHeapClearUptoRow : OpenClaim := { program := "ytebhipicfgnajaagreat", sum := "eb008b633d7b692a1e0d45b9d6fe80da42d6287208a5475a261c23c14e9f69c6", func := "loop.example/g00252/laws.FnExactHeapClear", spec := "fnExactHeapClear", inPlace := ["math.Float64frombits", "math.Float64bits"], unfollowed := true, recurses := true, apart := false, narrowed := true }
def FnExactHeapClearUptoSaid : Prop := fnExactHeapClearUptoRow.holds Tryz.pinned (OpenSpec.upto fnExactHeapClearSpec)

/-- 'laws.FnExactHeapDead', WHERE WHAT IT READS IS OF BULK AT MOST 1048576: true; the input reads as it did. -/
def fnExactHeapDeadUptoRow : OpenClaim := { program := "ytebhipicfgnajaagreat", sum := "eb008b633d7b692a1e0d45b9d6fe80da42d6287208a5475a261c23c14e9f69c6", func := "loop.example/g00252/laws.FnExactHeapDead", spec := "fnExactHeapDead", inPlace := ["math.Float64frombits", "math.Float64bits"], unfollowed := true, recurses := true, apart := false, narrowed := true }
def FnExactHeapDeadUptoSaid : Prop := fnExactHeapDeadUptoRow.holds Tryz.pinned (OpenSpec.upto fnExactHeapDeadSpec)

end Rows
end Go.Proofs.YtebhipicfgnajaaGreat
