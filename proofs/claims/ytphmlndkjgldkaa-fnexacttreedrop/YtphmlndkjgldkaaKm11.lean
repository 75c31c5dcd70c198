/- Trees, plain: the specification's walk and the program's tests tell the same. No program, no conditions. -/
import Derived.Test.YtphmlndkjgldkaaKj11
import Derived.Test.YtphmlndkjgldkaaKd11
namespace Go.Proofs.Ytphmlndkjgldkaa
open Go.RowKit
set_option maxRecDepth 100000
def hasB (lo hi : Option En) (e : En) : Bool :=
 entOk e && ((match lo with | none => true | some a => !ltE e a) && (match hi with | none => true | some b => ltE e b))
def okAt (lo hi : Option En) (es : List En) (i : Nat) : Bool := hasB lo hi (es.getD i en0) && (decide (i = 0) || ltE (es.getD (i - 1) en0) (es.getD i en0))
def nodeOk (lo hi : Option En) (es : List En) : Bool := (List.range es.length).all (okAt lo hi es)
def lowAt (es : List En) (lo : Option En) (i : Nat) : Option En := if i = 0 then lo else some (es.getD (i - 1) en0)
def highAt (es : List En) (hi : Option En) (i : Nat) : Option En := if i < es.length then some (es.getD i en0) else hi
structure St where
 seen : List Bool
 deep : Int
 wrong : Bool
 all : List En
def St.bad (st : St) : St := { st with wrong := true }
def outB (ns : List Nd) (sd : List Bool) (x : Int) : Bool := decide (x < 0 ∨ (ns.length : Int) ≤ x) || sd.getD x.toNat true
def formOk (d : Nd) : Bool := if d.leaf then decide (d.es.length ≤ 4 ∧ d.ks.length = 0) else decide (1 ≤ d.es.length ∧ d.es.length ≤ 4 ∧ d.ks.length = d.es.length + 1)
def goS (ns : List Nd) : Nat → St → Int → Int → Option En → Option En → St
 | 0, st, _, _, _, _ => st.bad
 | f + 1, st, x, deep, lo, hi =>
  if st.wrong || outB ns st.seen x then st.bad
  else
   let d := ns.getD x.toNat nd0
   let st1 : St := { st with seen := st.seen.set x.toNat true }
   if decide (4 < d.es.length) then st1.bad
   else if !nodeOk lo hi d.es then st1.bad
   else if d.leaf then
    let dp := if st.deep = 0 then deep else st.deep
    { seen := st1.seen, deep := dp, wrong := decide (dp ≠ deep) || decide (0 < d.ks.length), all := st.all ++ d.es }
   else if decide (d.es.length < 1) || decide (d.ks.length ≠ d.es.length + 1) then st1.bad
   else (List.range d.ks.length).foldl (fun s i => goS ns f s (d.ks.getD i 0) (deep + 1) (lowAt d.es lo i) (highAt d.es hi i)) st1
def lnk (ns : List Nd) : Nat → List Bool → Int → Option (List Bool)
 | 0, _, _ => none
 | f + 1, sd, x =>
  if outB ns sd x || !formOk (ns.getD x.toNat nd0) then none
  else (ns.getD x.toNat nd0).ks.foldlM (fun s k => lnk ns f s k) (sd.set x.toNat true)
def ino (ns : List Nd) : Nat → Int → Option En → Option En → Bool
 | 0, _, _, _ => false
 | f + 1, x, lo, hi =>
  let d := ns.getD x.toNat nd0
  nodeOk lo hi d.es && (List.range d.ks.length).all (fun i => ino ns f (d.ks.getD i 0) (lowAt d.es lo i) (highAt d.es hi i))
def lvs (ns : List Nd) : Nat → Int → Int → Bool
 | 0, _, _ => false
 | f + 1, x, h =>
  let d := ns.getD x.toNat nd0
  if d.leaf then decide (h = 1) else d.ks.all (fun k => lvs ns f k (h - 1))
def hgt (ns : List Nd) : Nat → Int → Int
 | 0, _ => 1
 | f + 1, x =>
  let d := ns.getD x.toNat nd0
  if d.leaf then 1 else 1 + hgt ns f (d.ks.getD 0 0)
def lfs (ns : List Nd) : Nat → Int → List En
 | 0, _ => []
 | f + 1, x =>
  let d := ns.getD x.toNat nd0
  if d.leaf then d.es else (d.ks.map (fun k => lfs ns f k)).flatten
theorem hgt_pos (ns : List Nd) : ∀ (f : Nat) (x : Int), 1 ≤ hgt ns f x
 | 0, _ => by simp [hgt]
 | f + 1, x => by
  unfold hgt
  simp only
  split
  · omega
  · have := hgt_pos ns f ((ns.getD x.toNat nd0).ks.getD 0 0); omega
theorem goS_wrong (ns : List Nd) : ∀ (f : Nat) (st : St) (x deep : Int) (lo hi : Option En), st.wrong = true → (goS ns f st x deep lo hi).wrong = true
 | 0, st, _, _, _, _, _ => rfl
 | f + 1, st, x, deep, lo, hi, h => by
  unfold goS
  rw [h, Bool.true_or, if_pos rfl]
  rfl
def unseen (sd : List Bool) : Nat := sd.count false
theorem unseen_set : ∀ (sd : List Bool) (i : Nat), sd.getD i true = false → unseen (sd.set i true) + 1 = unseen sd
 | [], i, h => by simp at h
 | b :: sd, 0, h => by
  simp only [List.getD_cons_zero] at h
  subst h
  simp [unseen]
 | b :: sd, i + 1, h => by
  have ih := unseen_set sd i (by simpa using h)
  simp only [unseen, List.set_cons_succ, List.count_cons] at ih ⊢
  omega
end Go.Proofs.Ytphmlndkjgldkaa
