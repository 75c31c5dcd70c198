/- The contracts of the law package's helpers: toByteS, eqByteS, markByteS, heldByteS. Conditions: lengths of at most 2^21 where memory is made or counted. -/
import Derived.Test.YtknloabdfkidiaaRows
import Derived.Test.YtknloabdfkidiaaBase
import Derived.Deep.QuietTactic
import Derived.BigQuiet
namespace Go.Proofs.Ytknloabdfkidiaa
open Go.RowKit
set_option maxRecDepth 100000

theorem Try.info5 : (Try.prog.info? 5).map (fun i => (i.zero, i.size, i.bytes)) = some (some (.int .u8 0), 1, 1) := by kernel_rfl

theorem set_take_step (zs : List Int) (k : Nat) (hk : k < zs.length) (m : Nat) (hm : m = zs.length) :
    (bys (zs.take k) ++ List.replicate (m - k) (Value.int .u8 0)).set k (.int .u8 (zs.getD k 0)) = bys (zs.take (k + 1)) ++ List.replicate (m - (k + 1)) (Value.int .u8 0) := by
  subst hm
  apply List.ext_getElem?
  intro j
  simp only [bys, List.getElem?_set, List.getElem?_append, List.getElem?_map, List.getElem?_replicate, List.length_map, List.length_take, List.length_append, List.length_replicate, List.getElem?_take]
  by_cases h1 : k = j
  · subst h1
    simp [hk, show min (k + 1) zs.length = k + 1 by omega, show min k zs.length = k by omega, show zs.length - k ≠ 0 by omega]
  · by_cases h2 : j < k
    · simp [h1, show j < min k zs.length by omega, show j < min (k+1) zs.length by omega, show j < k + 1 by omega, h2]
    · by_cases h3 : j < zs.length
      · simp [h1, show ¬ j < min k zs.length by omega, show ¬ j < min (k+1) zs.length by omega, show j - min k zs.length < zs.length - k by omega, show j - min (k+1) zs.length < zs.length - (k+1) by omega]
      · simp [h1, show ¬ j < min k zs.length by omega, show ¬ j < min (k+1) zs.length by omega, show ¬ j - min k zs.length < zs.length - k by omega, show ¬ j - min (k+1) zs.length < zs.length - (k+1) by omega]

end Go.Proofs.Ytknloabdfkidiaa
