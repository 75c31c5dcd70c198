/- Marks of tracks that are the call's own; EdgeBegin, plain, and the contract of the specification's. Conditions: at most 2^20 tracks, reads and writes, texts of at most 2^21 bytes. -/
import Derived.Test.YtecdnheopmojfaaGreatEo13
import Derived.Test.YtecdnheopmojfaaGreatEm13
namespace Go.Proofs.YtecdnheopmojfaaGreat
open Go.RowKit
set_option maxRecDepth 100000
def newT (xid now : Int) : Tk := ⟨xid, now, 0, false, [], [], false, false⟩
open Classical in
noncomputable def beginS (ts : List Tk) (xid now : Int) : List Tk := if tracksB ts = true ∧ tracksB (ts ++ [newT xid now]) = true then ts ++ [newT xid now] else []
open Classical in
noncomputable def beginC (ts : List Tk) (xid now : Int) : Int := if tracksB ts = true ∧ tracksB (ts ++ [newT xid now]) = true then 0 else 1
end Go.Proofs.YtecdnheopmojfaaGreat
