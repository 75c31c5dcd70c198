/- Bytes as strings: what the conversion gives. No conditions. -/
import Derived.Test.YtoppccfgcccijaaDoorMga
import Derived.Laws.BytesArg
import Derived.Laws.Cover1
namespace Go.Proofs.YtoppccfgcccijaaDoor
open Go.RowKit

/-- The string of these bytes. -/
def str (zs : List Int) : ByteArray := ⟨(zs.map fun n => UInt8.ofNat n.toNat).toArray⟩
/-- A slice of bytes as a string. -/
theorem Reads.str {w : World} {ad : Option Addr} {n : Nat} {zs : List Int} (h : Reads w ad n zs) (cap : Nat) (src : TypeId) (hs : Tryd.prog.underlying src = some (.slice 5)) (he : Tryd.prog.underlying 5 = some (.int .u8)) (hd : Tryd.prog.underlying 9 = some .string) :
    (convert src 9 (.slice ad n cap)).run Tryd.prog w = .ok (.string (str zs)) w := by
  have hl := h.len
  rcases h.cells with h0 | ⟨b, off, rfl, hc⟩
  · subst h0
    have hz : zs = [] := List.length_eq_zero_iff.1 hl
    subst hz
    cases ad with
    | none => exact run_convert_bytes_nil w src 5 hs he 0 cap 9 hd
    | some a =>
      rw [run_convert_bytes_string w src 9 5 _ 0 cap hs he hd, run_bytesToString w a 0 cap [] (by simp [loadCells, loadCellsFrom])]
      rfl
  · exact run_convert_bytes_arg w src 5 hs he b off n cap zs hl hc 9 hd
end Go.Proofs.YtoppccfgcccijaaDoor
