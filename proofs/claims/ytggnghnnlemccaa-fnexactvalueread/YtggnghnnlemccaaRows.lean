/-
  No cell of these rows narrows 'for every input' (looked for: loops, veiled, ifaces, maps, wideKeys, modest, calm, conditions, laid).
  DERIVED. THE GIVEN ROWS OF THIS SEAT. 10 by the template 'for every input the law returns true; each argument reads behind the call as it read before'; 0 by the template 'total and deterministic' (their statements: YtggnghnnlemccaaTotals.lean).
  GIVEN WITH THE SEED: the statements are not yours to turn. If you find one false, say at which input.
  Laid BY PROGRAM, IN A SANDBOX (cutbox-rows.mjs): the forced cells as the released guide's own fill.sh prints them over the translation 1687ee397b304a52… (all of the seat's roots in one cut). By AI agents, Wed Nov 11 2026. No macro, syntax, notation, axiom, sorry.
-/
import Derived.Test.YtggnghnnlemccaaChecked
import GoSem.Claim
import GoSem.ClaimJoined
import GoSem.ClaimMapViews
import Derived.JoinedTies
import Derived.KernelRfl
namespace Go.Proofs.Ytggnghnnlemccaa
/- THE CELL 'sum', in the pinned program and in every row, IS THE sha256 OF THE DUMP (.gsa) THAT YtggnghnnlemccaaProg.lean LOADS. Nothing in Lean hashes anything: it is a label: what it is worth is what the hold of that sum in a sandbox is worth. -/
noncomputable def Try.pinned : Pinned := { name := "ytggnghnnlemccaa", sum := "1687ee397b304a5278ab58c475dddf088e905ddf03dc530b7afe2c84d319afdd", checked := Try.checked }
namespace Rows
def none {H : Type} : Left H := { results := [], args := [] }

/-- 'laws.FnSpans': WHATEVER THE INPUT: true; the input reads as it did. -/
def fnSpansSpec : ChangeSpec := { name := "fnSpans", fn := fun _ => fun
  | [d] => { results := [.lit (.bool true)], args := [d] }
  | _ => none }
def fnSpansRow : OpenClaim := { program := "ytggnghnnlemccaa", sum := "1687ee397b304a5278ab58c475dddf088e905ddf03dc530b7afe2c84d319afdd", func := "loop.example/g00252/laws.FnSpans", spec := "fnSpans", inPlace := ["math.Float64bits"], apart := false }
def FnSpansSaid : Prop := fnSpansRow.holds Try.pinned (OpenSpec.ofChange fnSpansSpec)

/-- ITS FALSE NEIGHBOUR: 'it returns false'. Refute it at one input. -/
def fnSpansWrong : ChangeSpec := { name := "fnSpans", fn := fun _ => fun
  | [d] => { results := [.lit (.bool false)], args := [d] }
  | _ => none }
def FnSpansWrongFalsely : Prop := fnSpansRow.holds Try.pinned (OpenSpec.ofChange fnSpansWrong)

/-- 'laws.FnExactItemOk': WHATEVER THE INPUT: true; the input reads as it did. -/
def fnExactItemOkSpec : ChangeSpec := { name := "fnExactItemOk", fn := fun _ => fun
  | [d] => { results := [.lit (.bool true)], args := [d] }
  | _ => none }
def fnExactItemOkRow : OpenClaim := { program := "ytggnghnnlemccaa", sum := "1687ee397b304a5278ab58c475dddf088e905ddf03dc530b7afe2c84d319afdd", func := "loop.example/g00252/laws.FnExactItemOk", spec := "fnExactItemOk", inPlace := ["math.Float64bits"], apart := false }
def FnExactItemOkSaid : Prop := fnExactItemOkRow.holds Try.pinned (OpenSpec.ofChange fnExactItemOkSpec)

/-- ITS FALSE NEIGHBOUR: 'it returns false'. Refute it at one input. -/
def fnExactItemOkWrong : ChangeSpec := { name := "fnExactItemOk", fn := fun _ => fun
  | [d] => { results := [.lit (.bool false)], args := [d] }
  | _ => none }
def FnExactItemOkWrongFalsely : Prop := fnExactItemOkRow.holds Try.pinned (OpenSpec.ofChange fnExactItemOkWrong)

/-- 'laws.FnExactItemCompare': WHATEVER THE INPUT: true; the input reads as it did. -/
def fnExactItemCompareSpec : ChangeSpec := { name := "fnExactItemCompare", fn := fun _ => fun
  | [d1, d2] => { results := [.lit (.bool true)], args := [d1, d2] }
  | _ => none }
def fnExactItemCompareRow : OpenClaim := { program := "ytggnghnnlemccaa", sum := "1687ee397b304a5278ab58c475dddf088e905ddf03dc530b7afe2c84d319afdd", func := "loop.example/g00252/laws.FnExactItemCompare", spec := "fnExactItemCompare", inPlace := ["math.Float64bits"], apart := false }
def FnExactItemCompareSaid : Prop := fnExactItemCompareRow.holds Try.pinned (OpenSpec.ofChange fnExactItemCompareSpec)

/-- ITS FALSE NEIGHBOUR: 'it returns false'. Refute it at one input. -/
def fnExactItemCompareWrong : ChangeSpec := { name := "fnExactItemCompare", fn := fun _ => fun
  | [d1, d2] => { results := [.lit (.bool false)], args := [d1, d2] }
  | _ => none }
def FnExactItemCompareWrongFalsely : Prop := fnExactItemCompareRow.holds Try.pinned (OpenSpec.ofChange fnExactItemCompareWrong)

/-- 'laws.FnExactItemClean': WHATEVER THE INPUT: true; the input reads as it did. -/
def fnExactItemCleanSpec : ChangeSpec := { name := "fnExactItemClean", fn := fun _ => fun
  | [d] => { results := [.lit (.bool true)], args := [d] }
  | _ => none }
def fnExactItemCleanRow : OpenClaim := { program := "ytggnghnnlemccaa", sum := "1687ee397b304a5278ab58c475dddf088e905ddf03dc530b7afe2c84d319afdd", func := "loop.example/g00252/laws.FnExactItemClean", spec := "fnExactItemClean", inPlace := ["math.Float64bits"], unfollowed := true, recurses := true, apart := false }
def FnExactItemCleanSaid : Prop := fnExactItemCleanRow.holds Try.pinned (OpenSpec.ofChange fnExactItemCleanSpec)

/-- ITS FALSE NEIGHBOUR: 'it returns false'. Refute it at one input. -/
def fnExactItemCleanWrong : ChangeSpec := { name := "fnExactItemClean", fn := fun _ => fun
  | [d] => { results := [.lit (.bool false)], args := [d] }
  | _ => none }
def FnExactItemCleanWrongFalsely : Prop := fnExactItemCleanRow.holds Try.pinned (OpenSpec.ofChange fnExactItemCleanWrong)

/-- 'laws.FnExactKeyOk': WHATEVER THE INPUT: true; the input reads as it did. -/
def fnExactKeyOkSpec : ChangeSpec := { name := "fnExactKeyOk", fn := fun _ => fun
  | [d] => { results := [.lit (.bool true)], args := [d] }
  | _ => none }
def fnExactKeyOkRow : OpenClaim := { program := "ytggnghnnlemccaa", sum := "1687ee397b304a5278ab58c475dddf088e905ddf03dc530b7afe2c84d319afdd", func := "loop.example/g00252/laws.FnExactKeyOk", spec := "fnExactKeyOk", inPlace := ["math.Float64bits"], apart := false }
def FnExactKeyOkSaid : Prop := fnExactKeyOkRow.holds Try.pinned (OpenSpec.ofChange fnExactKeyOkSpec)

/-- ITS FALSE NEIGHBOUR: 'it returns false'. Refute it at one input. -/
def fnExactKeyOkWrong : ChangeSpec := { name := "fnExactKeyOk", fn := fun _ => fun
  | [d] => { results := [.lit (.bool false)], args := [d] }
  | _ => none }
def FnExactKeyOkWrongFalsely : Prop := fnExactKeyOkRow.holds Try.pinned (OpenSpec.ofChange fnExactKeyOkWrong)

/-- 'laws.FnExactKeyBytes': WHATEVER THE INPUT: true; the input reads as it did. -/
def fnExactKeyBytesSpec : ChangeSpec := { name := "fnExactKeyBytes", fn := fun _ => fun
  | [d] => { results := [.lit (.bool true)], args := [d] }
  | _ => none }
def fnExactKeyBytesRow : OpenClaim := { program := "ytggnghnnlemccaa", sum := "1687ee397b304a5278ab58c475dddf088e905ddf03dc530b7afe2c84d319afdd", func := "loop.example/g00252/laws.FnExactKeyBytes", spec := "fnExactKeyBytes", inPlace := ["math.Float64bits"], unfollowed := true, recurses := true, apart := false }
def FnExactKeyBytesSaid : Prop := fnExactKeyBytesRow.holds Try.pinned (OpenSpec.ofChange fnExactKeyBytesSpec)

/-- ITS FALSE NEIGHBOUR: 'it returns false'. Refute it at one input. -/
def fnExactKeyBytesWrong : ChangeSpec := { name := "fnExactKeyBytes", fn := fun _ => fun
  | [d] => { results := [.lit (.bool false)], args := [d] }
  | _ => none }
def FnExactKeyBytesWrongFalsely : Prop := fnExactKeyBytesRow.holds Try.pinned (OpenSpec.ofChange fnExactKeyBytesWrong)

/-- 'laws.FnExactKeyRead': WHATEVER THE INPUT: true; the input reads as it did. -/
def fnExactKeyReadSpec : ChangeSpec := { name := "fnExactKeyRead", fn := fun _ => fun
  | [d] => { results := [.lit (.bool true)], args := [d] }
  | _ => none }
def fnExactKeyReadRow : OpenClaim := { program := "ytggnghnnlemccaa", sum := "1687ee397b304a5278ab58c475dddf088e905ddf03dc530b7afe2c84d319afdd", func := "loop.example/g00252/laws.FnExactKeyRead", spec := "fnExactKeyRead", inPlace := ["math.Float64frombits", "math.Float64bits"], unfollowed := true, recurses := true, apart := false }
def FnExactKeyReadSaid : Prop := fnExactKeyReadRow.holds Try.pinned (OpenSpec.ofChange fnExactKeyReadSpec)

/-- ITS FALSE NEIGHBOUR: 'it returns false'. Refute it at one input. -/
def fnExactKeyReadWrong : ChangeSpec := { name := "fnExactKeyRead", fn := fun _ => fun
  | [d] => { results := [.lit (.bool false)], args := [d] }
  | _ => none }
def FnExactKeyReadWrongFalsely : Prop := fnExactKeyReadRow.holds Try.pinned (OpenSpec.ofChange fnExactKeyReadWrong)

/-- 'laws.FnExactValueBytes': WHATEVER THE INPUT: true; the input reads as it did. -/
def fnExactValueBytesSpec : ChangeSpec := { name := "fnExactValueBytes", fn := fun _ => fun
  | [d] => { results := [.lit (.bool true)], args := [d] }
  | _ => none }
def fnExactValueBytesRow : OpenClaim := { program := "ytggnghnnlemccaa", sum := "1687ee397b304a5278ab58c475dddf088e905ddf03dc530b7afe2c84d319afdd", func := "loop.example/g00252/laws.FnExactValueBytes", spec := "fnExactValueBytes", inPlace := ["math.Float64bits"], unfollowed := true, recurses := true, apart := false }
def FnExactValueBytesSaid : Prop := fnExactValueBytesRow.holds Try.pinned (OpenSpec.ofChange fnExactValueBytesSpec)

/-- ITS FALSE NEIGHBOUR: 'it returns false'. Refute it at one input. -/
def fnExactValueBytesWrong : ChangeSpec := { name := "fnExactValueBytes", fn := fun _ => fun
  | [d] => { results := [.lit (.bool false)], args := [d] }
  | _ => none }
def FnExactValueBytesWrongFalsely : Prop := fnExactValueBytesRow.holds Try.pinned (OpenSpec.ofChange fnExactValueBytesWrong)

/-- 'laws.FnExactValueRead': WHATEVER THE INPUT: true; the input reads as it did. -/
def fnExactValueReadSpec : ChangeSpec := { name := "fnExactValueRead", fn := fun _ => fun
  | [d] => { results := [.lit (.bool true)], args := [d] }
  | _ => none }
def fnExactValueReadRow : OpenClaim := { program := "ytggnghnnlemccaa", sum := "1687ee397b304a5278ab58c475dddf088e905ddf03dc530b7afe2c84d319afdd", func := "loop.example/g00252/laws.FnExactValueRead", spec := "fnExactValueRead", inPlace := ["math.Float64frombits", "math.Float64bits"], unfollowed := true, recurses := true, apart := false }
def FnExactValueReadSaid : Prop := fnExactValueReadRow.holds Try.pinned (OpenSpec.ofChange fnExactValueReadSpec)

/-- ITS FALSE NEIGHBOUR: 'it returns false'. Refute it at one input. -/
def fnExactValueReadWrong : ChangeSpec := { name := "fnExactValueRead", fn := fun _ => fun
  | [d] => { results := [.lit (.bool false)], args := [d] }
  | _ => none }
def FnExactValueReadWrongFalsely : Prop := fnExactValueReadRow.holds Try.pinned (OpenSpec.ofChange fnExactValueReadWrong)

/-- 'laws.FnExactInSpan': WHATEVER THE INPUT: true; the input reads as it did. -/
def fnExactInSpanSpec : ChangeSpec := { name := "fnExactInSpan", fn := fun _ => fun
  | [d1, d2, d3] => { results := [.lit (.bool true)], args := [d1, d2, d3] }
  | _ => none }
def fnExactInSpanRow : OpenClaim := { program := "ytggnghnnlemccaa", sum := "1687ee397b304a5278ab58c475dddf088e905ddf03dc530b7afe2c84d319afdd", func := "loop.example/g00252/laws.FnExactInSpan", spec := "fnExactInSpan", inPlace := ["math.Float64bits"], apart := false }
def FnExactInSpanSaid : Prop := fnExactInSpanRow.holds Try.pinned (OpenSpec.ofChange fnExactInSpanSpec)

/-- ITS FALSE NEIGHBOUR: 'it returns false'. Refute it at one input. -/
def fnExactInSpanWrong : ChangeSpec := { name := "fnExactInSpan", fn := fun _ => fun
  | [d1, d2, d3] => { results := [.lit (.bool false)], args := [d1, d2, d3] }
  | _ => none }
def FnExactInSpanWrongFalsely : Prop := fnExactInSpanRow.holds Try.pinned (OpenSpec.ofChange fnExactInSpanWrong)

/- THE SECOND FORM. 'bulk': how many values and letters a reading holds, each counted each time it is reached (what is shared counts as often as it is met; a slice's spare places count too). A statement '..UptoSaid' is the law's where the arguments, and the package variables that the reading takes, are together of bulk at most 1048576: NARROWER than '..Said'. Prove '..Said' where nothing that the law and all that it calls make is longer than what came in: it says more and counts as full. Else prove '..UptoSaid'. A law counts once. -/
mutual
def uptoBulk {H : Type} : DataW H → Nat
  | .lit (.string bytes) => bytes.length + 1
  | .lit _ => 1
  | .nil => 1
  | .ptr d => uptoBulk d + 1
  | .slice elems spare => uptoBulkAll elems + uptoBulkAll spare + 1
  | .agg parts => uptoBulkAll parts + 1
  | .iface _ d => uptoBulk d + 1
  | .map entries => uptoBulkEntries entries + 1
  | .held _ => 1
def uptoBulkAll {H : Type} : List (DataW H) → Nat
  | [] => 0
  | d :: r => uptoBulk d + uptoBulkAll r
def uptoBulkEntries {H : Type} : List (Lit × DataW H) → Nat
  | [] => 0
  | x :: r => uptoBulkEntry x + uptoBulkEntries r
def uptoBulkEntry {H : Type} : Lit × DataW H → Nat
  | (.string bytes, d) => bytes.length + uptoBulk d + 1
  | (_, d) => uptoBulk d + 1
 end
def uptoSmall : (H : Type) → List (DataW H) → Bool := fun _ ds => decide (uptoBulkAll ds ≤ 1048576)
def OpenSpec.upto (s : _root_.Go.ChangeSpec) : _root_.Go.OpenSpec := { _root_.Go.OpenSpec.ofChange s with cond := some uptoSmall }

/-- 'laws.FnSpans', WHERE WHAT IT READS IS OF BULK AT MOST 1048576: true; the input reads as it did. -/
def fnSpansUptoRow : OpenClaim := { program := "ytggnghnnlemccaa", sum := "1687ee397b304a5278ab58c475dddf088e905ddf03dc530b7afe2c84d319afdd", func := "loop.example/g00252/laws.FnSpans", spec := "fnSpans", inPlace := ["math.Float64bits"], apart := false, narrowed := true }
def FnSpansUptoSaid : Prop := fnSpansUptoRow.holds Try.pinned (OpenSpec.upto fnSpansSpec)

/-- 'laws.FnExactItemOk', WHERE WHAT IT READS IS OF BULK AT MOST 1048576: true; the input reads as it did. -/
def fnExactItemOkUptoRow : OpenClaim := { program := "ytggnghnnlemccaa", sum := "1687ee397b304a5278ab58c475dddf088e905ddf03dc530b7afe2c84d319afdd", func := "loop.example/g00252/laws.FnExactItemOk", spec := "fnExactItemOk", inPlace := ["math.Float64bits"], apart := false, narrowed := true }
def FnExactItemOkUptoSaid : Prop := fnExactItemOkUptoRow.holds Try.pinned (OpenSpec.upto fnExactItemOkSpec)

/-- 'laws.FnExactItemCompare', WHERE WHAT IT READS IS OF BULK AT MOST 1048576: true; the input reads as it did. -/
def fnExactItemCompareUptoRow : OpenClaim := { program := "ytggnghnnlemccaa", sum := "1687ee397b304a5278ab58c475dddf088e905ddf03dc530b7afe2c84d319afdd", func := "loop.example/g00252/laws.FnExactItemCompare", spec := "fnExactItemCompare", inPlace := ["math.Float64bits"], apart := false, narrowed := true }
def FnExactItemCompareUptoSaid : Prop := fnExactItemCompareUptoRow.holds Try.pinned (OpenSpec.upto fnExactItemCompareSpec)

/-- 'laws.FnExactItemClean', WHERE WHAT IT READS IS OF BULK AT MOST 1048576: true; the input reads as it did. -/
def fnExactItemCleanUptoRow : OpenClaim := { program := "ytggnghnnlemccaa", sum := "1687ee397b304a5278ab58c475dddf088e905ddf03dc530b7afe2c84d319afdd", func := "loop.example/g00252/laws.FnExactItemClean", spec := "fnExactItemClean", inPlace := ["math.Float64bits"], unfollowed := true, recurses := true, apart := false, narrowed := true }
def FnExactItemCleanUptoSaid : Prop := fnExactItemCleanUptoRow.holds Try.pinned (OpenSpec.upto fnExactItemCleanSpec)

/-- 'laws.FnExactKeyOk', WHERE WHAT IT READS IS OF BULK AT MOST 1048576: true; the input reads as it did. -/
def fnExactKeyOkUptoRow : OpenClaim := { program := "ytggnghnnlemccaa", sum := "1687ee397b304a5278ab58c475dddf088e905ddf03dc530b7afe2c84d319afdd", func := "loop.example/g00252/laws.FnExactKeyOk", spec := "fnExactKeyOk", inPlace := ["math.Float64bits"], apart := false, narrowed := true }
def FnExactKeyOkUptoSaid : Prop := fnExactKeyOkUptoRow.holds Try.pinned (OpenSpec.upto fnExactKeyOkSpec)

/-- 'laws.FnExactKeyBytes', WHERE WHAT IT READS IS OF BULK AT MOST 1048576: true; the input reads as it did. -/
def fnExactKeyBytesUptoRow : OpenClaim := { program := "ytggnghnnlemccaa", sum := "1687ee397b304a5278ab58c475dddf088e905ddf03dc530b7afe2c84d319afdd", func := "loop.example/g00252/laws.FnExactKeyBytes", spec := "fnExactKeyBytes", inPlace := ["math.Float64bits"], unfollowed := true, recurses := true, apart := false, narrowed := true }
def FnExactKeyBytesUptoSaid : Prop := fnExactKeyBytesUptoRow.holds Try.pinned (OpenSpec.upto fnExactKeyBytesSpec)

/-- 'laws.FnExactKeyRead', WHERE WHAT IT READS IS OF BULK AT MOST 1048576: true; the input reads as it did. -/
def fnExactKeyReadUptoRow : OpenClaim := { program := "ytggnghnnlemccaa", sum := "1687ee397b304a5278ab58c475dddf088e905ddf03dc530b7afe2c84d319afdd", func := "loop.example/g00252/laws.FnExactKeyRead", spec := "fnExactKeyRead", inPlace := ["math.Float64frombits", "math.Float64bits"], unfollowed := true, recurses := true, apart := false, narrowed := true }
def FnExactKeyReadUptoSaid : Prop := fnExactKeyReadUptoRow.holds Try.pinned (OpenSpec.upto fnExactKeyReadSpec)

/-- 'laws.FnExactValueBytes', WHERE WHAT IT READS IS OF BULK AT MOST 1048576: true; the input reads as it did. -/
def fnExactValueBytesUptoRow : OpenClaim := { program := "ytggnghnnlemccaa", sum := "1687ee397b304a5278ab58c475dddf088e905ddf03dc530b7afe2c84d319afdd", func := "loop.example/g00252/laws.FnExactValueBytes", spec := "fnExactValueBytes", inPlace := ["math.Float64bits"], unfollowed := true, recurses := true, apart := false, narrowed := true }
def FnExactValueBytesUptoSaid : Prop := fnExactValueBytesUptoRow.holds Try.pinned (OpenSpec.upto fnExactValueBytesSpec)

/-- 'laws.FnExactValueRead', WHERE WHAT IT READS IS OF BULK AT MOST 1048576: true; the input reads as it did. -/
def fnExactValueReadUptoRow : OpenClaim := { program := "ytggnghnnlemccaa", sum := "1687ee397b304a5278ab58c475dddf088e905ddf03dc530b7afe2c84d319afdd", func := "loop.example/g00252/laws.FnExactValueRead", spec := "fnExactValueRead", inPlace := ["math.Float64frombits", "math.Float64bits"], unfollowed := true, recurses := true, apart := false, narrowed := true }
def FnExactValueReadUptoSaid : Prop := fnExactValueReadUptoRow.holds Try.pinned (OpenSpec.upto fnExactValueReadSpec)

/-- 'laws.FnExactInSpan', WHERE WHAT IT READS IS OF BULK AT MOST 1048576: true; the input reads as it did. -/
def fnExactInSpanUptoRow : OpenClaim := { program := "ytggnghnnlemccaa", sum := "1687ee397b304a5278ab58c475dddf088e905ddf03dc530b7afe2c84d319afdd", func := "loop.example/g00252/laws.FnExactInSpan", spec := "fnExactInSpan", inPlace := ["math.Float64bits"], apart := false, narrowed := true }
def FnExactInSpanUptoSaid : Prop := fnExactInSpanUptoRow.holds Try.pinned (OpenSpec.upto fnExactInSpanSpec)

end Rows
end Go.Proofs.Ytggnghnnlemccaa
