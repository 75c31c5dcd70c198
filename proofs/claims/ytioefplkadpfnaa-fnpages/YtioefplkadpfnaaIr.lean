/- itemRead of the program: what is read of bytes. -/
import Derived.Test.YtioefplkadpfnaaCf
import Derived.Test.YtioefplkadpfnaaAr
import Derived.Test.YtioefplkadpfnaaIx
import Derived.Deep.RegionHeld3
namespace Go.Proofs.Ytioefplkadpfnaa
open Go.RowKit

/-- What is read of bytes, floats by d. -/
def readR (d : Nat → Option Nat) : List Int → Int × Int × Nat × List Int × Bool
  | [] => (0, 0, 0, [], false)
  | k :: ts =>
    if k = 3 then (if ts.length ≤ 40 then (3, 0, 0, ts, true) else (0, 0, 0, [], false))
    else if ts.length = 8 then
      if k = 1 then (1, (low ts : Int) - 9223372036854775808, 0, [], true)
      else if k = 2 then (match d (low ts) with | some y => (2, 0, y, [], true) | none => (0, 0, 0, [], false))
      else (0, 0, 0, [], false)
    else (0, 0, 0, [], false)

/-- Where the rest of a list begins. -/
def tl (b off cap : Nat) : Option Addr := if cap = 1 then some ⟨b, off, none⟩ else some ⟨b, off + 1, none⟩

theorem Reads.rest {w : World} {b off n cap : Nat} {k : Int} {ts : List Int} (h : Reads w (some ⟨b, off, none⟩) n (k :: ts)) (hc : n ≤ cap) : Reads w (tl b off cap) (n - 1) ts := by
  have hl := h.len
  simp at hl
  refine ⟨by omega, ?_, fun i => h.bd (i + 1)⟩
  rcases h.cells with h0 | ⟨b', off', e, hcc⟩
  · omega
  · cases e
    by_cases h1 : cap = 1
    · exact .inl (by omega)
    · refine .inr ⟨_, _, by rw [tl, if_neg h1], fun i hi => ?_⟩
      have := hcc (i + 1) (by omega)
      rw [show off + (i + 1) = off + 1 + i by omega] at this
      exact this

theorem results_cell_tmp {P : Program} {fn : Func} {p q : Tmp} {ty : TypeId} (h : fn.results = #[.cell p ty, .tmp q]) (tmps : Array Value) (w : World) (g : Nat) (t : TypeId) (cs : Array Value) (fr : Nat × Nat) (d : TypeDesc)
    (hp : tmps.getD p undef = .pointer (some ⟨g, 0, none⟩)) (hg : w.heap[g]? = some (.cells cs t fr))
    (hu : P.underlying ty = some d) (hd : (match d with | .struct _ | .array _ _ => true | _ => false) = true) (hi : (P.info? ty).map (·.size) = some cs.size) :
    (results fn tmps).run P w = .ok (.tuple #[.agg cs, tmps.getD q undef]) w := by
  have hp' : tmps[p]?.getD undef = .pointer (some ⟨g, 0, none⟩) := by simpa using hp
  simp [results, h, hp', asAddr, run_loadVar_row w g t ty cs fr d hg hu hd hi]

end Go.Proofs.Ytioefplkadpfnaa
