/- The contracts of the laws' markSpan, heldSpan, markTrackS, heldTrackS. Conditions: tracks of at most 2^21 bytes together. -/
import Derived.Test.YtecdnheopmojfaaGreatEg13
namespace Go.Proofs.YtecdnheopmojfaaGreat
open Go.RowKit
set_option maxRecDepth 100000
def mk2 : Int → List (Im × Im) → List (Im × Im)
 | _, [] => []
 | k, p :: ps => (mkI1 k p.1, mkI1 (k + nmI p.1) p.2) :: mk2 (k + nmI p.1 + nmI p.2) ps
theorem fl2_mk2 : ∀ (k : Int) (l : List (Im × Im)), fl2 (mk2 k l) = mkIs k (fl2 l)
 | _, [] => rfl
 | k, p :: ps => by simp only [mk2, fl2, mkIs, fl2_mk2]
theorem mk2_length : ∀ (k : Int) (l : List (Im × Im)), (mk2 k l).length = l.length
 | _, [] => rfl
 | k, p :: ps => by simp [mk2, mk2_length]
def blkA (v : Value) (ms : List Mt) (b : Nat) : Prop := v.ownBlock = some b ∨ ∃ i, blkT (ms.getD i mt0) b
theorem row_off {w : World} {lo hi : Nat} {t : TypeId} {s : Nat} {v : Value} {n : Nat} {es : List Im} {xs : List Value} (h : OwnX t s w lo hi v n es xs) {base : Nat} {e : TypeId} {s' n' : Nat} {v' : Value} {ys : List Value} (o : w.ownsRow base e s' v' n' ys) (h1 : t ≠ e) (h5 : (5 : TypeId) ≠ e) {b : Nat} (hb : v'.ownBlock = some b) : ¬ blkX v xs b := by
 intro hc
 rcases hc with hc | hc
 · exact own_type h.row o h1 hc hb
 · obtain ⟨i, hi'⟩ := blk_txt hc
   exact own_type (h.txt.own i) o h5 hi' hb
end Go.Proofs.YtecdnheopmojfaaGreat