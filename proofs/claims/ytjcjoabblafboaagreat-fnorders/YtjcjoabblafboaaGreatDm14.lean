/- The draw of FnOrders, whole. For codes of at most 2^21 bytes. -/
import Derived.Test.YtjcjoabblafboaaGreatMgr
import Derived.Test.YtjcjoabblafboaaGreatDj14
namespace Go.Proofs.YtjcjoabblafboaaGreat
open Go.RowKit
set_option maxRecDepth 100000
theorem drawGO {ad : Option Addr} {n : Nat} (cap : Nat) {zs : List Int} {w : World} (h : Reads w ad n zs) (hn : n ≤ 2097152) : Calls Tryz.prog 7 #[.slice ad n cap] w (AnsDs w) :=
 drawGraphOrder (fun C hn d hl => (l14bent C hn d hl).mono (fun _ _ q => by
  obtain ⟨⟨v, ts', e, d, l⟩, cg⟩ := q
  exact ⟨v, ts', e, d, l, cg⟩)) cap h hn
end Go.Proofs.YtjcjoabblafboaaGreat
