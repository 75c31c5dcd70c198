/- Texts of this proof in one: Qr Qs Fm8 Sb Sx7 Sp8 Get Put Pr Rr Wf Wi Bd Rs7 Ck Cb Rp7 Rc7 Wp Rq7 Rt7 Draw Drawo. -/
import Derived.Test.YtioefplkadpfnaaMga
import Derived.Laws.BytesArg
import Derived.Laws.Cover1
import Derived.Deep.QuietTactic
import Derived.BigQuiet
import Derived.WalkLawsBesides
import Derived.Laws.BitsAllLaws
import Derived.Deep.LoopGhost
import Derived.RangeFuncNested
import Derived.RangeFuncBound
import Derived.RangeFuncCalls
import Derived.RangeFuncLeaves
import Derived.RangeFuncBox
import Derived.Shelf.Abstract
import Derived.WalkKit
import Derived.OwnWalkIn
import Derived.TacticsInMore
import Derived.LoopNIn
import Derived.LoopIn
import Derived.OrdersIn
import Derived.Defers
import Derived.Recover
import Derived.Deep.RegionHeld3
/- A page out of its bytes, plain. No program, no conditions. -/


namespace Go.Proofs.Ytioefplkadpfnaa

def secB (zs : List Int) (k : Nat) : List Int := (zs.drop (64 * k + 4)).take 60
def bodyZ (zs : List Int) : Nat → List Int
  | 0 => []
  | k + 1 => bodyZ zs k ++ secB zs k
def lenB (body : List Int) (j : Nat) : Nat := (body.getD j 0).toNat
def cutA (body : List Int) : Nat → Option (List (List Int) × Nat)
  | 0 => some ([], 1 + lenB body 0)
  | j + 1 => match cutA body j with
    | none => none
    | some (acc, p) => if p + lenB body (1 + j) ≤ body.length then some (acc ++ [(body.drop p).take (lenB body (1 + j))], p + lenB body (1 + j)) else none
def slotsZ (body : List Int) : Option (List (List Int)) := if 1 + lenB body 0 ≤ body.length then (cutA body (lenB body 0)).map (·.1) else none
def readP (zs : List Int) : Option (Int × List (List Int)) :=
  if zs.length = 256 then
    match slotsZ (bodyZ zs 4) with
    | none => none
    | some ss => if bytesP (numOf zs 0 4) ss = zs then some (numOf zs 0 4, ss) else none
  else none

theorem secB_len {zs : List Int} {k : Nat} (h : 256 ≤ zs.length) (hk : k < 4) : (secB zs k).length = 60 := by simp [secB]; omega
theorem bodyZ_len {zs : List Int} (h : 256 ≤ zs.length) : ∀ k, k ≤ 4 → (bodyZ zs k).length = 60 * k
  | 0, _ => rfl
  | k + 1, hk => by
    have := bodyZ_len h k (by omega)
    simp only [bodyZ, List.length_append, this, secB_len h (by omega : k < 4)]
    omega
theorem bodyZ_bd {zs : List Int} (h : bdZ zs) : ∀ k, bdZ (bodyZ zs k)
  | 0 => fun i => by simp [bodyZ]
  | k + 1 => (bodyZ_bd h k).app (h.sub fun x hx => List.mem_of_mem_drop (List.mem_of_mem_take hx))
theorem cutA_some {body : List Int} {j : Nat} {acc : List (List Int)} {p : Nat} (h : cutA body j = some (acc, p)) (hp : p + lenB body (1 + j) ≤ body.length) : cutA body (j + 1) = some (acc ++ [(body.drop p).take (lenB body (1 + j))], p + lenB body (1 + j)) := by
  simp only [cutA, h, if_pos hp]
theorem cutA_stop {body : List Int} {j : Nat} {acc : List (List Int)} {p : Nat} (h : cutA body j = some (acc, p)) (hp : ¬ p + lenB body (1 + j) ≤ body.length) : cutA body (j + 1) = none := by
  simp only [cutA, h, if_neg hp]
theorem cutA_none {body : List Int} {j : Nat} (h : cutA body j = none) : ∀ k, j ≤ k → cutA body k = none := by
  intro k hk
  induction hk with
  | refl => exact h
  | step _ ih => simp only [cutA, ih]
theorem slotsZ_yes {body : List Int} {acc : List (List Int)} {p : Nat} (h : 1 + lenB body 0 ≤ body.length) (hc : cutA body (lenB body 0) = some (acc, p)) : slotsZ body = some acc := by
  unfold slotsZ; rw [if_pos h, hc]; rfl
theorem slotsZ_no1 {body : List Int} (h : ¬ 1 + lenB body 0 ≤ body.length) : slotsZ body = none := by unfold slotsZ; rw [if_neg h]
theorem slotsZ_no2 {body : List Int} {j : Nat} (hj : j ≤ lenB body 0) (hc : cutA body j = none) : slotsZ body = none := by
  unfold slotsZ
  split
  · rw [cutA_none hc _ hj]; rfl
  · rfl

/-- Sectors of a page's bytes. -/
theorem secs_split (L : Int) (body : List Int) (hp : (putL L 4).length = 4) (hb : body.length = 240) (k : Nat) (hk : k < 4) :
    ((secsP L body 4).drop (64 * k)).take 4 = putL L 4 ∧ ((secsP L body 4).drop (64 * k + 4)).take 60 = (body.drop (60 * k)).take 60 := by
  have hs := secsP_len hp hb
  have h64 : ∀ k, k < 4 → (putL L 4 ++ (body.drop (60 * k)).take 60).length = 64 := by
    intro k hk
    rw [List.length_append, hp, List.length_take, List.length_drop, hb]; omega
  have key : ∀ j, j ≤ 4 → k < j → ((secsP L body j).drop (64 * k)).take 64 = putL L 4 ++ (body.drop (60 * k)).take 60 := by
    intro j
    induction j with
    | zero => intro _ h; omega
    | succ j ih =>
      intro hj hkj
      have hsj := hs j (by omega)
      by_cases e : k = j
      · subst e
        simp only [secsP]
        rw [List.drop_append_of_le_length (by omega), List.drop_eq_nil_of_le (by omega), List.nil_append]
        exact List.take_of_length_le (by rw [h64 k hk]; exact Nat.le_refl _)
      · have := ih (by omega) (by omega)
        simp only [secsP]
        rw [List.drop_append_of_le_length (by omega), List.take_append_of_le_length (by rw [List.length_drop, hsj]; omega)]
        exact this
  have h4 := key 4 (by omega) hk
  constructor
  · have e1 : ((secsP L body 4).drop (64 * k)).take 4 = (((secsP L body 4).drop (64 * k)).take 64).take 4 := by rw [List.take_take]; rfl
    rw [e1, h4, List.take_append_of_le_length (by omega), List.take_of_length_le (by omega)]
  · have e2 : ((secsP L body 4).drop (64 * k + 4)).take 60 = (((secsP L body 4).drop (64 * k)).take 64).drop 4 := by rw [List.drop_take, List.drop_drop]
    rw [e2, h4, List.drop_append_of_le_length (by omega), List.drop_eq_nil_of_le (by omega), List.nil_append]
theorem pieces (body : List Int) (hb : body.length = 240) (zs : List Int) (h : ∀ k, k < 4 → secB zs k = (body.drop (60 * k)).take 60) : bodyZ zs 4 = body := by
  have key : ∀ k, k ≤ 4 → bodyZ zs k = body.take (60 * k) := by
    intro k
    induction k with
    | zero => intro _; simp [bodyZ]
    | succ k ih =>
      intro hk
      simp only [bodyZ]
      rw [ih (by omega), h k (by omega), show 60 * (k + 1) = 60 * k + 60 by omega, List.take_add]
  rw [key 4 (by omega), List.take_of_length_le (by omega)]
theorem body_back {L : Int} {ss : List (List Int)} (h : okP L ss = true) : bodyZ (bytesP L ss) 4 = bodyP ss := by
  refine pieces _ (bodyP_len h) _ fun k hk => ?_
  rw [bytesP_yes h]
  exact (secs_split L (bodyP ss) (putL4 L (okP_of h).l0 (okP_of h).l1).1 (bodyP_len h) k hk).2

theorem val_dig7 (f : Nat → Int) (n size : Nat) (hf : ∀ j, j < size → f j = ((sh n j : Nat) : Int) % 256) (h0 : sh n size = 0) : ∀ c k, k + c = size → val f k c = ((sh n k : Nat) : Int)
  | 0, k, h => by
    obtain rfl : k = size := by omega
    simp [val, h0]
  | c + 1, k, h => by
    have ih := val_dig7 f n size hf h0 c (k + 1) (by omega)
    simp only [val]
    rw [ih, hf k (by omega), sh_succ]
    have := Nat.div_add_mod (sh n k) 256
    omega
theorem num_back (n : Nat) (h : n ≤ 1000000) (zs : List Int) (q : Nat) (hq : (zs.drop q).take 4 = dig n 4) : numOf zs q 4 = n ∧ numOf ((zs.drop q).take 4) 0 4 = n := by
  have h0 : sh n 4 = 0 := by
    simp only [sh]
    exact Nat.div_eq_of_lt (by have : (256 : Nat) ^ 4 = 4294967296 := by decide
                               omega)
  have hl : q + 4 ≤ zs.length := by
    have := congrArg List.length hq
    rw [dig_length] at this
    simp at this; omega
  have hj : ∀ j, j < 4 → zs.getD (q + j) 0 = ((sh n j : Nat) : Int) % 256 := by
    intro j hj
    rw [← dig_at n 4 j hj, ← hq]
    simp [List.getD, hj]
  constructor
  · have v : val (byteFrom zs q) 0 4 = n := by
      have := val_dig7 (byteFrom zs q) n 4 (fun j h => hj j h) h0 4 0 rfl
      rwa [sh_zero] at this
    have := (num_yes zs q 4 (by omega) (by omega) hl (by rw [v]; omega)).2
    rw [v] at this
    exact this
  · have v : val (byteFrom ((zs.drop q).take 4) 0) 0 4 = n := by
      have := val_dig7 (byteFrom ((zs.drop q).take 4) 0) n 4 (fun j h => by unfold byteFrom; rw [hq, Nat.zero_add, dig_at n 4 j h]) h0 4 0 rfl
      rwa [sh_zero] at this
    have := (num_yes ((zs.drop q).take 4) 0 4 (by omega) (by omega) (by rw [hq, dig_length]; omega) (by rw [v]; omega)).2
    rw [v] at this
    exact this
theorem bytes_ok {L : Int} {ss : List (List Int)} {zs : List Int} (h : bytesP L ss = zs) (hz : zs ≠ []) : okP L ss = true := by
  cases e : okP L ss with
  | true => rfl
  | false => rw [bytesP_no e] at h; exact absurd h.symm hz
theorem bytes_num {L : Int} {ss : List (List Int)} (h : okP L ss = true) (k : Nat) (hk : k < 4) : numOf (bytesP L ss) ((64 * k : Nat) : Int) 4 = L ∧ numOf (((bytesP L ss).drop (64 * k)).take 4) 0 4 = L := by
  have o := okP_of h
  have p4 := putL4 L o.l0 o.l1
  have := num_back L.toNat (by have := o.l1; omega) (bytesP L ss) (64 * k) (by rw [bytesP_yes h, (secs_split L (bodyP ss) p4.1 (bodyP_len h) k hk).1, p4.2])
  have e := Int.toNat_of_nonneg o.l0
  rw [e] at this
  exact this
end Go.Proofs.Ytioefplkadpfnaa
/- A page comes back from its bytes; whose number counts; what is read is small. No program, no conditions. -/

namespace Go.Proofs.Ytioefplkadpfnaa

theorem body_head {ss : List (List Int)} (j : Nat) (hj : j ≤ ss.length) : (bodyP ss).getD j 0 = (headP ss).getD j 0 := by
  have : (headP ss).length = 1 + ss.length := by simp [headP, lensP_len]; omega
  unfold bodyP fillP
  rw [List.append_assoc, getD_app, if_pos (by omega)]
theorem len_zero {ss : List (List Int)} : lenB (bodyP ss) 0 = ss.length := by
  unfold lenB; rw [body_head 0 (Nat.zero_le _)]; simp [headP]
theorem len_at {ss : List (List Int)} (j : Nat) (hj : j < ss.length) : lenB (bodyP ss) (1 + j) = (ss.getD j []).length := by
  unfold lenB; rw [body_head (1 + j) (by omega), Nat.add_comm 1 j]
  simp [headP, lensP, List.getD, hj]
theorem flat_split : ∀ (ss : List (List Int)) (j : Nat), j < ss.length → (ss.flatten.drop (tot (ss.take j))).take (ss.getD j []).length = ss.getD j []
  | z :: ss, 0, _ => by simp [tot]
  | z :: ss, j + 1, h => by
    have ih := flat_split ss j (by simpa using h)
    simp only [List.flatten_cons, List.take_succ_cons, tot, List.getD_cons_succ]
    rw [← List.drop_drop, List.drop_append_of_le_length (by omega), List.drop_eq_nil_of_le (Nat.le_refl _), List.nil_append]
    exact ih
theorem body_cut {ss : List (List Int)} (j : Nat) (hj : j < ss.length) : ((bodyP ss).drop (1 + ss.length + tot (ss.take j))).take (ss.getD j []).length = ss.getD j [] := by
  have hh : (headP ss).length = 1 + ss.length := by simp [headP, lensP_len]; omega
  have hf := flat_tot ss
  have ht := tot_step ss j hj
  have ht2 := tot_take ss (j + 1)
  have e := flat_split ss j hj
  unfold bodyP fillP
  generalize List.replicate (240 - (headP ss ++ ss.flatten).length) (0 : Int) = R
  rw [List.append_assoc, ← hh, ← List.drop_drop, List.drop_append_of_le_length (by omega), List.drop_eq_nil_of_le (Nat.le_refl _), List.nil_append, List.drop_append_of_le_length (by omega), List.take_append_of_le_length (by rw [List.length_drop]; omega)]
  exact e
theorem cut_back {L : Int} {ss : List (List Int)} (h : okP L ss = true) : ∀ j, j ≤ ss.length → cutA (bodyP ss) j = some (ss.take j, 1 + ss.length + tot (ss.take j))
  | 0, _ => by simp only [cutA, len_zero]; simp [tot]
  | j + 1, hj => by
    have ih := cut_back h j (by omega)
    have ht := tot_step ss j (by omega)
    have ht2 := tot_take ss (j + 1)
    have hl := bodyP_len h
    have hk := (okP_of h).t
    have el := len_at (ss := ss) j (by omega)
    have := cutA_some ih (by rw [el, hl]; omega)
    rw [this, el, body_cut j (by omega)]
    rw [List.take_succ_eq_append_getElem (by omega : j < ss.length)] at ht ⊢
    simp only [tot_app, tot, List.getD, List.getElem?_eq_getElem (by omega : j < ss.length), Option.getD_some, Option.some.injEq, Prod.mk.injEq]
    constructor
    · trivial
    · omega
theorem slots_back {L : Int} {ss : List (List Int)} (h : okP L ss = true) : slotsZ (bodyP ss) = some ss := by
  have c := cut_back h ss.length (Nat.le_refl _)
  rw [← len_zero] at c
  have := slotsZ_yes (body := bodyP ss) (by rw [len_zero, bodyP_len h]; have := (okP_of h).t; omega) c
  rw [this, len_zero, List.take_of_length_le (Nat.le_refl _)]
theorem read_back {L : Int} {ss : List (List Int)} (h : okP L ss = true) : readP (bytesP L ss) = some (L, ss) := by
  have hn := (bytes_num h 0 (by omega)).1
  have hn' : numOf (bytesP L ss) 0 4 = L := hn
  unfold readP
  rw [if_pos (bytesP_len h), body_back h, slots_back h]
  simp only
  rw [hn', if_pos rfl]
/-- What is read is a page that has just these bytes. -/
theorem read_some {zs : List Int} {L : Int} {ss : List (List Int)} (h : readP zs = some (L, ss)) : bytesP L ss = zs ∧ zs.length = 256 := by
  unfold readP at h
  split at h
  · rename_i hl
    split at h
    · cases h
    · split at h
      · rename_i hb
        cases h
        exact ⟨hb, hl⟩
      · cases h
  · cases h
theorem read_iff {zs : List Int} {L : Int} {ss : List (List Int)} (hz : zs.length = 256) (h : bytesP L ss = zs) : readP zs = some (L, ss) := by
  have ho := bytes_ok h (by intro e; rw [e] at hz; simp at hz)
  rw [← h]
  exact read_back ho
/-- The program reads the last number: it answers the same. -/
theorem read_last {zs : List Int} (hz : zs.length = 256) {ss : List (List Int)} (hs : slotsZ (bodyZ zs 4) = some ss) :
    (∀ L, L = numOf ((zs.drop 192).take 4) 0 4 → bytesP L ss = zs → readP zs = some (L, ss)) ∧ (bytesP (numOf ((zs.drop 192).take 4) 0 4) ss ≠ zs → readP zs = none) := by
  constructor
  · intro L _ h
    exact read_iff hz h
  · intro hne
    cases hr : readP zs with
    | none => rfl
    | some p =>
      exfalso
      obtain ⟨L, ts⟩ := p
      obtain ⟨hb, _⟩ := read_some hr
      have ho := bytes_ok hb (by intro e; rw [e] at hz; simp at hz)
      have hn := (bytes_num ho 3 (by omega)).2
      rw [hb] at hn
      have hbb := body_back ho
      have hsl := slots_back ho
      rw [hb] at hbb
      rw [← hbb, hs] at hsl
      cases hsl
      exact hne (by rw [show 64 * 3 = 192 from rfl] at hn; rw [hn]; exact hb)
theorem read_none_slots {zs : List Int} (hs : slotsZ (bodyZ zs 4) = none) : readP zs = none := by
  unfold readP
  split
  · rw [hs]
  · rfl
theorem read_none_len {zs : List Int} (h : zs.length ≠ 256) : readP zs = none := by unfold readP; rw [if_neg h]
theorem read_small {zs : List Int} {RL : Int} {RS : List (List Int)} (h : (readP zs).getD (0, []) = (RL, RS)) : SmP RS := by
  cases hr : readP zs with
  | none =>
    rw [hr] at h
    cases h
    exact SmP.nil
  | some p =>
    rw [hr] at h
    obtain ⟨L, ss⟩ := p
    cases h
    obtain ⟨hb, hz⟩ := read_some hr
    exact SmP.ok (bytes_ok hb (by intro e; rw [e] at hz; simp at hz))
end Go.Proofs.Ytioefplkadpfnaa
/- Pages put into and cleared, in plain mathematics. No conditions. -/




namespace Go.Proofs.Ytioefplkadpfnaa
open Go.RowKit
set_option maxRecDepth 100000

structure PutY (L : Int) (ss : List (List Int)) (S : Nat) (z : List Int) (lsn : Int) : Prop where
  ok : okP L ss = true
  s15 : S ≤ 15
  z1 : 1 ≤ z.length
  z92 : z.length ≤ 92
  l1 : 1 ≤ lsn
  l2 : lsn ≤ 1000000
  ok2 : okP lsn (layP ss S z) = true
theorem put_y {L : Int} {ss : List (List Int)} {slot : Int} {z : List Int} {lsn : Int} (h : putOk L ss slot z lsn = true) : ∃ S : Nat, slot = S ∧ PutY L ss S z lsn := by
  unfold putOk at h
  simp only [Bool.and_eq_true, decide_eq_true_eq] at h
  obtain ⟨⟨⟨⟨h1, h2⟩, h3⟩, h4⟩, h5⟩ := h
  exact ⟨slot.toNat, by omega, h1, by omega, h3.1, h3.2, h4.1, h4.2, h5⟩
theorem put_n {L : Int} {ss : List (List Int)} {slot : Int} {z : List Int} {lsn : Int} (h : putOk L ss slot z lsn = true) : putP L ss slot z lsn = (lsn, layP ss slot.toNat z) := putP_yes h
theorem used_zero : usedP 0 [] = 1 := by rw [usedP_yes (by decide +kernel)]; simp [tot]
theorem lay_other (ss : List (List Int)) (S : Nat) (z : List Int) (i : Nat) (h : i ≠ S) : (layP ss S z).getD i [] = ss.getD i [] := by rw [layP_at, if_neg h]
theorem lay_self (ss : List (List Int)) (S : Nat) (z : List Int) : (layP ss S z).getD S [] = z := by rw [layP_at, if_pos rfl]
section
variable {L : Int} {ss : List (List Int)} {S : Nat} {z : List Int} {lsn : Int}
theorem PutY.clr (h : PutY L ss S z lsn) : clearOk lsn (layP ss S z) (S : Int) lsn = true := by
  refine clearOk_yes h.ok2 ?_ ⟨h.l1, h.l2⟩
  rw [layP_length]; omega
theorem PutY.clrP (h : PutY L ss S z lsn) : clearP lsn (layP ss S z) (S : Int) lsn = (lsn, trimP (layP (layP ss S z) S [])) := by
  rw [clearP_yes h.clr, Int.toNat_natCast]
theorem PutY.less (h : PutY L ss S z lsn) : usedP lsn (trimP (layP (layP ss S z) S [])) < usedP lsn (layP ss S z) := by
  have hu := usedP_yes h.ok2
  have h1 := h.z1
  rcases usedP_bd (L := lsn) (ss := trimP (layP (layP ss S z) S [])) with ⟨_, e⟩ | ⟨e, _, _⟩
  · rw [e, hu]; omega
  · rw [usedP_yes e, hu]
    have t1 := tot_trim (layP (layP ss S z) S [])
    have t2 := tot_lay (ss := layP ss S z) (q := S) (z := []) (by rw [layP_length]; omega)
    have t3 := trimP_len (layP (layP ss S z) S [])
    rw [lay_self] at t2
    have t4 : (layP (layP ss S z) S []).length = (layP ss S z).length := by rw [layP_length (layP ss S z), layP_length]; omega
    rw [t4] at t3
    simp only [List.length_nil] at t2
    omega
theorem clr_self (h : S < (trimP (layP ss S [])).length) : (trimP (layP ss S [])).getD S [] = [] := by rw [trim_at h, lay_self]
theorem clr_other {i : Nat} (h : i < (trimP (layP ss S [])).length) (hi : i ≠ S) : (trimP (layP ss S [])).getD i [] = ss.getD i [] := by rw [trim_at h, lay_other _ _ _ _ hi]
theorem clr_len : (trimP (layP ss S [])).length ≤ max ss.length (S + 1) := by have := trimP_len (layP ss S []); rw [layP_length] at this; exact this
end
end Go.Proofs.Ytioefplkadpfnaa
/- Bytes as strings: what the conversion gives. No conditions. -/



namespace Go.Proofs.Ytioefplkadpfnaa
open Go.RowKit

/-- The string of these bytes. -/
def str (zs : List Int) : ByteArray := ⟨(zs.map fun n => UInt8.ofNat n.toNat).toArray⟩
/-- A slice of bytes as a string. -/
theorem Reads.str {w : World} {ad : Option Addr} {n : Nat} {zs : List Int} (h : Reads w ad n zs) (cap : Nat) (src : TypeId) (hs : Try.prog.underlying src = some (.slice 5)) (he : Try.prog.underlying 5 = some (.int .u8)) (hd : Try.prog.underlying 9 = some .string) :
    (convert src 9 (.slice ad n cap)).run Try.prog w = .ok (.string (str zs)) w := by
  have hl := h.len
  rcases h.cells with h0 | ⟨b, off, rfl, hc⟩
  · subst h0
    have hz : zs = [] := List.length_eq_zero_iff.1 hl
    subst hz
    cases ad with
    | none => exact run_convert_bytes_nil w src 5 hs he 0 cap 9 hd
    | some a =>
      rw [run_convert_bytes_string w src 9 5 _ 0 cap hs he hd, run_bytesToString w a 0 cap [] (by simp [loadCells, loadCellsFrom])]
      rfl
  · exact run_convert_bytes_arg w src 5 hs he b off n cap zs hl hc 9 hd
end Go.Proofs.Ytioefplkadpfnaa
/- Bytes held against bytes as strings; the contract of bytes.Equal. No conditions. -/

namespace Go.Proofs.Ytioefplkadpfnaa
open Go.RowKit
set_option maxRecDepth 100000

theorem str_inj7 : ∀ (a b : List Int), (∀ i, 0 ≤ a.getD i 0 ∧ a.getD i 0 ≤ 255) → (∀ i, 0 ≤ b.getD i 0 ∧ b.getD i 0 ≤ 255) → a.map (fun n : Int => UInt8.ofNat n.toNat) = b.map (fun n : Int => UInt8.ofNat n.toNat) → a = b
  | [], [], _, _, _ => rfl
  | [], _ :: _, _, _, h => by simp at h
  | _ :: _, [], _, _, h => by simp at h
  | x :: xs, y :: ys, ha, hb, h => by
    simp only [List.map_cons, List.cons.injEq] at h
    have hx : 0 ≤ x ∧ x ≤ 255 := ha 0
    have hy : 0 ≤ y ∧ y ≤ 255 := hb 0
    have e := h.1
    rw [← UInt8.toNat_inj, UInt8.toNat_ofNat', UInt8.toNat_ofNat'] at e
    have : x = y := by omega
    subst this
    rw [str_inj7 xs ys (fun i => ha (i + 1)) (fun i => hb (i + 1)) h.2]
theorem str_eq7 {a b : List Int} (ha : ∀ i, 0 ≤ a.getD i 0 ∧ a.getD i 0 ≤ 255) (hb : ∀ i, 0 ≤ b.getD i 0 ∧ b.getD i 0 ≤ 255) : ((str a).toList == (str b).toList) = decide (a = b) := by
  rw [ByteArray.toList_eq, ByteArray.toList_eq]
  by_cases h : a = b
  · subst h; simp
  · rw [decide_eq_false h, beq_eq_false_iff_ne]
    intro e
    exact h (str_inj7 a b ha hb (by simpa [str] using e))

set_option maxHeartbeats 1600000 in
theorem bytes_equal {a b : Option Addr} {n m : Nat} (c d : Nat) {zs ys : List Int} {w : World} (h : Reads w a n zs) (h2 : Reads w b m ys) :
    Calls Try.prog 62 #[.slice a n c, .slice b m d] w fun e w' => e = .returned (.bool (decide (zs = ys))) ∧ w' = w := by
  have s1 := h.str c 22 Try.underlying22 Try.underlying5 Try.underlying9
  have s2 := h2.str d 22 Try.underlying22 Try.underlying5 Try.underlying9
  have E := hid (str_eq7 h.bd h2.bd)
  clear h h2
  go_enter Try.func62, Try.ntmps62
  go_wp2_with fail
  go_ret
  exact ⟨by rw [← E.out]; rfl, rfl⟩
end Go.Proofs.Ytioefplkadpfnaa
/- The contract of laws.samePage: two pages that read alike. Conditions: lists of at most 2^21 slots. -/




namespace Go.Proofs.Ytioefplkadpfnaa
open Go.RowKit
set_option maxRecDepth 100000

theorem conv_all {w : World} {ad : Option Addr} {n : Nat} {zs : List Int} (h : Reads w ad n zs) (cap : Nat) : ∀ m, (convert 22 9 (.slice ad n cap)).run Try.prog (w.drewN m) = .ok (.string (str zs)) (w.drewN m) :=
  fun m => (((Still.drewN w m).reads h).str cap 22 Try.underlying22 Try.underlying5 Try.underlying9)
theorem ReadsS.slot {w : World} {a : Option Addr} {ss : List (List Int)} (h : ReadsS w a ss) {k : Nat} (hk : k < ss.length) : ∃ b off ax cx, a = some ⟨b, off, none⟩ ∧ w.cell? ⟨b, off + k, none⟩ = some (.slice ax (ss.getD k []).length cx) ∧ Reads w ax (ss.getD k []).length (ss.getD k []) := by
  rcases h.cells with h0 | ⟨b, off, rfl, hc⟩
  · omega
  · obtain ⟨v, hcx, ax, cx, rfl, hr, _⟩ := hc k hk
    exact ⟨b, off, ax, cx, rfl, hcx, hr⟩

set_option maxHeartbeats 3200000 in
theorem samePage (L : Int) {a a' : Option Addr} {n : Nat} (c c' : Nat) {ss : List (List Int)} {w : World} (h : ReadsS w a ss) (h' : ReadsS w a' ss) (hl : ss.length = n) (hn : n ≤ 2097152) :
    Calls Try.prog 18 #[.agg #[.int .i64 L, .slice a n c], .agg #[.int .i64 L, .slice a' n c']] w fun e w' => e = .returned (.bool true) ∧ Below w.heap.size w w' := by
  have hB := two w (.cells #[.int .i64 L, .slice a n c] 26) (.cells #[.int .i64 L, .slice a' n c'] 26)
  have H1 := hid (h.below hB (Nat.le_refl _))
  have H2 := hid (h'.below hB (Nat.le_refl _))
  have BX := hid (((ArgP.new L n c h 26 w.heap.size rfl).below (Below.alloc1 (w.alloc (.cells #[.int .i64 L, .slice a n c] 26)) (.cells #[.int .i64 L, .slice a' n c'] 26)) (Nat.le_refl _)).box)
  have BY := hid ((ArgP.new L n c' (h'.below (Below.alloc1 w (.cells #[.int .i64 L, .slice a n c] 26)) (Nat.le_refl _)) 26 (w.heap.size + 1) (by simp)).box)
  have HB := hid hB
  have hq : (L != L) = false := by simp
  have hq2 : ((n : Int) != (n : Int)) = false := by simp
  clear h h' hB
  go_enter Try.func18, Try.ntmps18
  obtain ⟨x0, x1⟩ := BX.out
  obtain ⟨y0, y1⟩ := BY.out
  go_wp2_with fail
  clear hq hq2
  generalize (w.alloc (.cells #[.int .i64 L, .slice a n c] 26)).alloc (.cells #[.int .i64 L, .slice a' n c'] 26) = W at *
  go_loopw [5] (fun i wr => ∃ k m : Nat, k ≤ n ∧ i = .int .i64 k ∧ wr = W.drewN m) (fun i _ => n - (intOf i).toNat)
  case atStart => exact ⟨0, 0, Nat.zero_le _, rfl, rfl⟩
  case round =>
    obtain ⟨k, m, hk, rfl, rfl⟩ := hrel
    by_cases hlt : k < n
    · have hlt' : (k : Int) < (n : Int) := by omega
      have hk0 : (0 : Int) ≤ (k : Int) := by omega
      obtain ⟨b, off, ax, cx, rfl, hcx, hrx⟩ := H1.out.slot (k := k) (by omega)
      obtain ⟨b', off', ay, cy, rfl, hcy, hry⟩ := H2.out.slot (k := k) (by omega)
      have s1 := conv_all hrx cx
      have s2 := conv_all hry cy
      generalize ss.getD k [] = z at *
      clear hrx hry
      go_wp2_with fail
      go_quiet (fail)
      go_wp2_with fail
      go_roundw
      case rel => exact ⟨k + 1, _, by omega, by go_num, rfl⟩
      case measure => simp [intOf]; omega
    · have hlt' : ¬ (k : Int) < (n : Int) := by omega
      go_wp2_with fail
      go_ret
      exact ⟨rfl, HB.out.trans ((Still.drewN W m).below _)⟩
end Go.Proofs.Ytioefplkadpfnaa
/- The contracts of GetNum, the specification's and the program's: both answer 'numOf', 'numOk' of what is read, and leave memory as it was. For every argument. -/




namespace Go.Proofs.Ytioefplkadpfnaa
set_option maxRecDepth 100000
open Go.RowKit

theorem or_byte (V x : Int) (h0 : 0 ≤ V) (h1 : V ≤ 72057594037927935) (h2 : 0 ≤ x) (h3 : x ≤ 255) : bits .or .u64 (V * 256) x = V * 256 + x := by
  obtain ⟨v, rfl⟩ := Int.eq_ofNat_of_zero_le h0
  obtain ⟨y, rfl⟩ := Int.eq_ofNat_of_zero_le h2
  rw [u64_or _ _ (by omega) (by omega) (by omega) (by omega)]
  have e : ((v : Int) * 256).toNat = v <<< 8 := by rw [Nat.shiftLeft_eq]; omega
  rw [e, Int.toNat_natCast, ← Nat.shiftLeft_add_eq_or_of_lt (by omega), Nat.shiftLeft_eq]
  omega

set_option maxHeartbeats 1600000 in
theorem impl_GetNum_yes (b off n cap at' size : Nat) (zs : List Int) (w : World) (hn : n ≤ 2097152) (hz : zs.length = n) (h1 : 1 ≤ size) (h8 : size ≤ 8) (hl : at' + size ≤ n)
    (hbd : ∀ j, 0 ≤ byteFrom zs at' j ∧ byteFrom zs at' j ≤ 255)
    (hc : ∀ j, j < size → w.cell? ⟨b, off + (at' + j), none⟩ = some (.int .u8 (byteFrom zs at' j))) :
    Calls Try.prog 99 #[.slice (some ⟨b, off, none⟩) n cap, .int .i64 at', .int .i64 size] w fun e w' =>
      e = .returned (.tuple #[.int .i64 (numOf zs at' size), .bool (numOk zs at' size)]) ∧ w' = w := by
  have Hno := hid (num_big zs at' size)
  have Hyes := hid (num_yes zs at' size h1 h8 (by omega))
  generalize byteFrom zs at' = f at hbd hc Hno Hyes
  go_enter Try.func99, Try.ntmps99
  go_wp2
  go_loopw [8, 9] (fun sn i wr => ∃ k : Nat, k ≤ size ∧ i = .int .i64 ((at' : Int) + k - 1) ∧ sn = .int .u64 (val f k (size - k)) ∧ wr = w) (fun _ i _ => (intOf i + 1 - at').toNat)
  case atStart => exact ⟨size, Nat.le_refl _, by go_num, by rw [Nat.sub_self]; rfl, rfl⟩
  case round =>
    obtain ⟨k, hk, rfl, rfl, rfl⟩ := hrel
    by_cases hlt : k = 0
    · subst hlt
      have hv := val_64 f hbd 0 size h8
      have hv0 := val_nonneg f hbd (size - 0) 0
      rw [Nat.sub_zero] at hv hv0
      simp only [Nat.sub_zero]
      generalize val f 0 size = V at *
      by_cases hV : V ≤ 9223372036854775807
      · go_wp2
        go_ret2
        obtain ⟨e1, e2⟩ := Hyes.out hV
        rw [e1, e2]
        exact ⟨rfl, rfl⟩
      · go_wp2
        go_ret2
        obtain ⟨e1, e2⟩ := Hno.out (by omega)
        rw [e1, e2]
        exact ⟨rfl, rfl⟩
    · obtain ⟨j, rfl⟩ : ∃ j, k = j + 1 := ⟨k - 1, by omega⟩
      have hb := hbd j
      have hcell := hc j (by omega)
      have hv := val_56 f hbd (j + 1) size (by omega) h8
      have hv0 := val_nonneg f hbd (size - (j + 1)) (j + 1)
      have hs := hid (val_step f j size (by omega))
      generalize val f (j + 1) (size - (j + 1)) = V at *
      have hor := hid (or_byte V (f j) hv0 hv hb.1 hb.2)
      clear hc
      go_wp2
      go_roundw
      case rel => exact ⟨j, by omega, by go_num, by rw [hs.out, hor.out], by first | trivial | rfl⟩
      case measure => simp [intOf]; omega

set_option maxHeartbeats 1600000 in
theorem impl_GetNum_no (ad : Option Addr) (n cap : Nat) (at' size : Int) (w : World) (hn : n ≤ 2097152) (hs : size ≤ 9223372036854775807) (ha : at' ≤ 9223372036854775807) (ha' : -9223372036854775808 ≤ at') (h : ¬ (1 ≤ size ∧ size ≤ 8 ∧ 0 ≤ at' ∧ at' + size ≤ n)) :
    Calls Try.prog 99 #[.slice ad n cap, .int .i64 at', .int .i64 size] w fun e w' => e = .returned (.tuple #[.int .i64 0, .bool false]) ∧ w' = w := by
  by_cases a1 : size < 1
  · go_enter Try.func99, Try.ntmps99
    go_wp2
    go_ret2
    exact ⟨rfl, rfl⟩
  by_cases a2 : 8 < size
  · go_enter Try.func99, Try.ntmps99
    go_wp2
    go_ret2
    exact ⟨rfl, rfl⟩
  by_cases a3 : at' < 0
  · go_enter Try.func99, Try.ntmps99
    go_wp2
    go_ret2
    exact ⟨rfl, rfl⟩
  have a5 : (n : Int) - size < at' := by omega
  go_enter Try.func99, Try.ntmps99
  go_wp2
  go_ret2
  exact ⟨rfl, rfl⟩

theorem from_reads {ad : Option Addr} {n : Nat} {zs : List Int} {w : World} (h : Reads w ad n zs) {at' size : Nat} (h1 : 1 ≤ size) (hl : at' + size ≤ n) :
    ∃ b off, ad = some ⟨b, off, none⟩ ∧ (∀ j, 0 ≤ byteFrom zs at' j ∧ byteFrom zs at' j ≤ 255) ∧ ∀ j, j < size → w.cell? ⟨b, off + (at' + j), none⟩ = some (.int .u8 (byteFrom zs at' j)) := by
  rcases h.cells with h0 | ⟨b, off, rfl, hc⟩
  · omega
  · exact ⟨b, off, rfl, fun j => h.bd (at' + j), fun j hj => hc (at' + j) (by omega)⟩

theorem impl_GetNum {ad : Option Addr} {n : Nat} (cap : Nat) {zs : List Int} {w : World} (h : Reads w ad n zs) (hn : n ≤ 2097152) (at' size : Int) (hs : size ≤ 9223372036854775807) (ha : at' ≤ 9223372036854775807) (ha' : -9223372036854775808 ≤ at') :
    Calls Try.prog 99 #[.slice ad n cap, .int .i64 at', .int .i64 size] w fun e w' => e = .returned (.tuple #[.int .i64 (numOf zs at' size), .bool (numOk zs at' size)]) ∧ w' = w := by
  by_cases hc : 1 ≤ size ∧ size ≤ 8 ∧ 0 ≤ at' ∧ at' + size ≤ n
  · obtain ⟨A, rfl⟩ := Int.eq_ofNat_of_zero_le hc.2.2.1
    obtain ⟨S, rfl⟩ := Int.eq_ofNat_of_zero_le (show 0 ≤ size by omega)
    obtain ⟨b, off, rfl, h1, h2⟩ := from_reads h (at' := A) (size := S) (by omega) (by omega)
    exact impl_GetNum_yes b off n cap A S zs w hn h.len (by omega) (by omega) (by omega) h1 h2
  · obtain ⟨e1, e2⟩ := num_no zs at' size (by rw [h.len]; exact hc)
    rw [e1, e2]
    exact impl_GetNum_no ad n cap at' size w hn hs ha ha' hc
end Go.Proofs.Ytioefplkadpfnaa
/- The contracts of PutNum, the specification's and the program's: both answer the bytes 'putL', in new memory. For every argument. -/



namespace Go.Proofs.Ytioefplkadpfnaa
set_option maxRecDepth 100000
open Go.RowKit

set_option maxHeartbeats 1600000 in
theorem spec_PutNum_yes (n size : Nat) (w : World) (h1 : 1 ≤ size) (h8 : size ≤ 8) (hn : n ≤ 9223372036854775807) :
    Calls Try.prog 78 #[.int .i64 n, .int .i64 size] w fun e w' =>
      ∃ v, e = .returned v ∧ w'.ownsRow w.heap.size 5 1 v (putL n size).length (bys (putL n size)) ∧ Below w.heap.size w w' := by
  obtain ⟨i0, hi, hz0, hz1, hz2⟩ := info_parts Try.info5
  go_enter Try.func78, Try.ntmps78
  go_wp2
  go_loopw [0, 5, 6] (fun sn v i wr => ∃ k : Nat, k ≤ size ∧ i = .int .i64 k ∧ sn = .int .i64 (sh n k : Nat) ∧ wr.ownsRow w.heap.size 5 1 v k (bys (dig n k)) ∧ Below w.heap.size w wr) (fun _ _ i _ => size - (intOf i).toNat)
  case atStart => exact ⟨0, Nat.zero_le _, rfl, by rw [sh_zero], World.ownsRow_nil _ _ _ _, Below.refl _ _⟩
  case round =>
    obtain ⟨k, hk, rfl, rfl, hown, hnx⟩ := hrel
    have hsl := sh_le n k
    have hss := hid (sh_succ n k)
    have hds := hid (dig_succ n k)
    generalize hmk0 : sh n k = m at hsl hss hds
    have hmk := hid hmk0
    clear hmk0
    by_cases hlt : k < size
    · go_wp2_with (at_builtin; refine wpList_append_own _ rfl _ _ 22 rfl w.heap.size 5 i0 (.int .u8 0) 1 1 Try.underlying22 hi hz0 hz1 hz2 rfl (by decide) _ _ _ rfl (hown.alloc _) ⟨wr.heap.size, 0, none⟩ 1 1 [.int .u8 ((m : Int) % 256)] rfl rfl (cell_one_new _ _ _) ?c2 ?c3 ?c4 ?c5 ?_)
      case c2 => intro u hu; simp at hu; subst hu; rfl
      case c3 => unfold maxLen; omega
      case c4 => omega
      case c5 => have := hnx.size; simp; omega
      intro v' w1 hown' hgrow _
      have hnx' : Below w.heap.size w w1 := (hnx.alloc hnx.size _).grown hgrow (by have := hnx.size; simp; omega) (fun j hj => (hown.lt j hj).1)
      have H1 := hid hown'
      clear hown' hgrow hown hnx
      go_wp2
      go_roundw
      case rel =>
        refine ⟨k + 1, by omega, by go_num, ?_, ?_, hnx'⟩
        · rw [hss.out]; go_num
        · rw [hds.out, bys_append]; exact H1.out
      case measure => simp [intOf]; omega
    · obtain rfl : k = size := by omega
      by_cases hm : 0 < m
      · go_wp2
        go_ret
        exact ⟨_, rfl, by rw [putL_big n k (by rw [hmk.out]; exact hm)]; exact World.ownsRow_nil _ _ _ _, hnx⟩
      · go_wp2
        go_ret
        exact ⟨_, rfl, by rw [putL_yes n k h1 h8 (by rw [hmk.out]; omega), dig_length]; exact hown, hnx⟩

set_option maxHeartbeats 1600000 in
theorem spec_PutNum_no (n size : Int) (w : World) (h : ¬ (1 ≤ size ∧ size ≤ 8 ∧ 0 ≤ n)) :
    Calls Try.prog 78 #[.int .i64 n, .int .i64 size] w fun e w' => e = .returned (.slice none 0 0) ∧ w' = w := by
  by_cases a1 : size < 1
  · go_enter Try.func78, Try.ntmps78
    go_wp2
    go_ret
    exact ⟨rfl, rfl⟩
  by_cases a2 : 8 < size
  · go_enter Try.func78, Try.ntmps78
    go_wp2
    go_ret
    exact ⟨rfl, rfl⟩
  have a3 : n < 0 := by omega
  go_enter Try.func78, Try.ntmps78
  go_wp2
  go_ret
  exact ⟨rfl, rfl⟩

theorem spec_PutNum (n size : Int) (w : World) (hn : n ≤ 9223372036854775807) :
    Calls Try.prog 78 #[.int .i64 n, .int .i64 size] w fun e w' =>
      ∃ v, e = .returned v ∧ w'.ownsRow w.heap.size 5 1 v (putL n size).length (bys (putL n size)) ∧ Below w.heap.size w w' := by
  by_cases h : 1 ≤ size ∧ size ≤ 8 ∧ 0 ≤ n
  · obtain ⟨N, rfl⟩ := Int.eq_ofNat_of_zero_le h.2.2
    obtain ⟨S, rfl⟩ := Int.eq_ofNat_of_zero_le (show 0 ≤ size by omega)
    exact spec_PutNum_yes N S w (by omega) (by omega) (by omega)
  · refine (spec_PutNum_no n size w h).mono fun e w' ⟨he, hw⟩ => ?_
    subst hw
    exact ⟨_, he, by rw [putL_no n size h]; exact World.ownsRow_nil _ _ _ _, Below.refl _ _⟩

theorem set_dig (n k size : Nat) (hk : k < size) : (bys (dig n k) ++ List.replicate (size - k) (Value.int .u8 0)).set k (.int .u8 ((sh n k : Int) % 256)) = bys (dig n (k + 1)) ++ List.replicate (size - (k + 1)) (Value.int .u8 0) := by
  rw [List.set_append_right _ _ (by simp [bys, dig_length])]
  obtain ⟨m, hm⟩ : ∃ m, size - k = m + 1 := ⟨size - k - 1, by omega⟩
  rw [hm, show size - (k + 1) = m by omega, bys_length, dig_length, Nat.sub_self, List.replicate_succ, List.set_cons_zero, dig_succ, bys_append]
  simp [bys]

set_option maxHeartbeats 1600000 in
theorem impl_PutNum_yes (n size : Nat) (w : World) (h1 : 1 ≤ size) (h8 : size ≤ 8) (hn : n ≤ 9223372036854775807) :
    Calls Try.prog 66 #[.int .i64 n, .int .i64 size] w fun e w' =>
      ∃ v, e = .returned v ∧ w'.ownsRow w.heap.size 5 1 v (putL n size).length (bys (putL n size)) ∧ Below w.heap.size w w' := by
  obtain ⟨i0, hi, hz0, hz1, hz2⟩ := info_parts Try.info5
  go_enter Try.func66, Try.ntmps66
  go_wp2_with (at_make; refine wpList_make_full _ rfl _ _ 22 rfl w.heap.size 5 i0 (.int .u8 0) 1 Try.underlying22 hi hz0 hz1 _ _ _ _ size rfl rfl (by omega) (by omega) ?b2 ?b3 (Nat.le_refl _) ?_)
  case b2 => rw [hz2]; omega
  case b3 => unfold maxLen; omega
  intro w0 hown0 hgrow0
  go_wp2
  go_loopw [5, 7, 24] (fun r _ i wr => ∃ k : Nat, k ≤ size ∧ i = .int .i64 k ∧ r = .int .u64 (sh n k : Nat) ∧ wr.ownsRow w.heap.size 5 1 (.slice (some ⟨w.heap.size, 0, none⟩) size size) size (bys (dig n k) ++ List.replicate (size - k) (Value.int .u8 0)) ∧ Below w.heap.size w wr)
    (fun _ _ i _ => size - (intOf i).toNat)
  case atStart =>
    refine ⟨0, Nat.zero_le _, rfl, by rw [sh_zero], ?_, (Below.refl _ _).grown hgrow0 (Nat.le_refl _) (fun k h => by cases h)⟩
    rw [toList_madeCells_one] at hown0
    simpa [bys, dig] using hown0
  case round =>
    obtain ⟨k, hk, rfl, rfl, hown, hnx⟩ := hrel
    have hsl := sh_le n k
    have hss := hid (sh_succ n k)
    have hds := hid (fun h => set_dig n k size h)
    generalize hmk0 : sh n k = m at hsl hss hds
    have hmk := hid hmk0
    clear hmk0
    by_cases hlt : k < size
    · have hcy : wr.cell? ⟨w.heap.size, k, none⟩ = some (.int .u8 0) := by
        rw [hown.cellAt k (by omega), List.getElem?_append_right (by simp [bys, dig_length])]
        simp [bys, dig_length, show 0 < size - k by omega]
      have hfr : wr.frozen? ⟨w.heap.size, k, none⟩ = false := hown.frozenAt k
      have R := hown.stored k (.int .u8 ((m : Int) % 256))
      rw [hds.out hlt] at R
      have R1 := hid R
      clear R hown
      go_wp2
      go_roundw
      case rel => exact ⟨k + 1, by omega, by go_num, by rw [hss.out]; go_num, R1.out.1, hnx.setCell (Nat.le_refl _) _⟩
      case measure => simp [intOf]; omega
    · obtain rfl : k = size := by omega
      by_cases hm : 0 < m
      · go_wp2
        go_ret
        exact ⟨_, rfl, by rw [putL_big n k (by rw [hmk.out]; exact hm)]; exact World.ownsRow_nil _ _ _ _, hnx⟩
      · go_wp2
        go_ret
        exact ⟨_, rfl, by rw [putL_yes n k h1 h8 (by rw [hmk.out]; omega), dig_length]; simpa using hown, hnx⟩

set_option maxHeartbeats 1600000 in
theorem impl_PutNum_no (n size : Int) (w : World) (h : ¬ (1 ≤ size ∧ size ≤ 8 ∧ 0 ≤ n)) :
    Calls Try.prog 66 #[.int .i64 n, .int .i64 size] w fun e w' => e = .returned (.slice none 0 0) ∧ w' = w := by
  by_cases a3 : n < 0
  · go_enter Try.func66, Try.ntmps66
    go_wp2
    go_ret
    exact ⟨rfl, rfl⟩
  by_cases a1 : size < 1
  · go_enter Try.func66, Try.ntmps66
    go_wp2
    go_ret
    exact ⟨rfl, rfl⟩
  have a2 : 8 < size := by omega
  go_enter Try.func66, Try.ntmps66
  go_wp2
  go_ret
  exact ⟨rfl, rfl⟩

theorem impl_PutNum (n size : Int) (w : World) (hn : n ≤ 9223372036854775807) :
    Calls Try.prog 66 #[.int .i64 n, .int .i64 size] w fun e w' =>
      ∃ v, e = .returned v ∧ w'.ownsRow w.heap.size 5 1 v (putL n size).length (bys (putL n size)) ∧ Below w.heap.size w w' := by
  by_cases h : 1 ≤ size ∧ size ≤ 8 ∧ 0 ≤ n
  · obtain ⟨N, rfl⟩ := Int.eq_ofNat_of_zero_le h.2.2
    obtain ⟨S, rfl⟩ := Int.eq_ofNat_of_zero_le (show 0 ≤ size by omega)
    exact impl_PutNum_yes N S w (by omega) (by omega) (by omega)
  · refine (impl_PutNum_no n size w h).mono fun e w' ⟨he, hw⟩ => ?_
    subst hw
    exact ⟨_, he, by rw [putL_no n size h]; exact World.ownsRow_nil _ _ _ _, Below.refl _ _⟩
end Go.Proofs.Ytioefplkadpfnaa
/- The contract of the specification's PageBytes. Conditions: lists of at most 2^47. -/



namespace Go.Proofs.Ytioefplkadpfnaa
open Go.RowKit
set_option maxRecDepth 100000

theorem wrap8 (z : Nat) (h : z ≤ 255) : IntKind.u8.wrap (z : Int) = (z : Int) := by simp [IntKind.wrap, IntKind.bits, IntKind.signed]; omega
theorem reads_cut {w : World} {g o n : Nat} {zs : List Int} (h : Reads w (some ⟨g, o, none⟩) n zs) (i m : Nat) (hi : i + m ≤ n) : Reads w (some ⟨g, o + i, none⟩) m ((zs.drop i).take m) := by
  have hl := h.len
  refine ⟨by simp; omega, ?_, fun j => ?_⟩
  · by_cases h0 : m = 0
    · exact .inl h0
    · rcases h.cells with h1 | ⟨b, off, e, hc⟩
      · omega
      · cases e
        refine .inr ⟨g, o + i, rfl, fun j hj => ?_⟩
        rw [show o + i + j = o + (i + j) by omega, hc (i + j) (by omega)]
        congr 2
        simp [List.getD, List.getElem?_drop, hj]
  · have := h.bd (i + j)
    by_cases hj : j < m
    · simpa [List.getD, List.getElem?_take, List.getElem?_drop, hj] using this
    · simp [List.getD, List.getElem?_take, hj]
theorem lit_row {w : World} (x : Int) : (w.alloc (.cells #[.int .u8 x] 5)).ownsRow w.heap.size 5 1 (.slice (some ⟨w.heap.size, 0, none⟩) 1 1) 1 (bys [x]) := by
  have := World.ownsRow_lit (base := w.heap.size) (e := 5) (size := 1) w #[.int .u8 x] 1 (Nat.le_refl _) (by unfold maxLen; omega) rfl
  simpa [bys] using this
theorem cut_len {zs : List Int} {i m : Nat} (h : i + m ≤ zs.length) : ((zs.drop i).take m).length = m := by simp; omega

end Go.Proofs.Ytioefplkadpfnaa
/- The contracts of a page reader's take and number: bytes from the front, or a panic where they lack. Conditions: at most 2^21 bytes. -/



namespace Go.Proofs.Ytioefplkadpfnaa
open Go.RowKit
set_option maxRecDepth 100000

theorem reads_front {U : World} {ad : Option Addr} {m k : Nat} {zs : List Int} (h : Reads U ad m zs) (hk : k ≤ m) : Reads U ad k (zs.take k) := by
  have hl := h.len
  refine ⟨by simp; omega, ?_, fun j => ?_⟩
  · by_cases h0 : k = 0
    · exact .inl h0
    · rcases h.cells with h1 | ⟨b, off, e, hc⟩
      · omega
      · refine .inr ⟨b, off, e, fun j hj => ?_⟩
        rw [hc j (by omega)]
        congr 2
        simp [List.getD, hj]
  · have := h.bd j
    by_cases hj : j < k
    · simpa [List.getD, hj] using this
    · simp [List.getD, List.getElem?_take, hj]
theorem cut_mid {U : World} {b off m k : Nat} {zs : List Int} (h : Reads U (some ⟨b, off, none⟩) m zs) (hk : k ≤ m) : Reads U (some ⟨b, off + k, none⟩) (m - k) (zs.drop k) := by
  have := reads_cut h k (m - k) (by omega)
  rwa [List.take_of_length_le (by rw [List.length_drop, h.len]; exact Nat.le_refl _)] at this
theorem cut_end {U : World} {ad a2 : Option Addr} {m : Nat} {zs : List Int} (h : Reads U ad m zs) : Reads U a2 (m - m) (zs.drop m) :=
  ⟨by simp [h.len], .inl (by omega), by rw [List.drop_eq_nil_of_le (by rw [h.len]; exact Nat.le_refl _)]; simp⟩

/-- A page reader in its block g: what is left reads as zs. -/
structure Rd (w : World) (g b off m c : Nat) (zs : List Int) : Prop where
  row : w.heap[g]? = some (.cells #[.slice (some ⟨b, off, none⟩) m c] 100 (0, 0))
  reads : Reads w (some ⟨b, off, none⟩) m zs
  cap : m ≤ c
  top : c ≤ 9223372036854775807
  ne : b ≠ g
theorem Rd.below {w w' : World} {g b off m c : Nat} {zs : List Int} (h : Rd w g b off m c zs) {B : Nat} (hb : Below B w w') (hB : w.heap.size ≤ B) : Rd w' g b off m c zs :=
  ⟨(hb.block g (Nat.lt_of_lt_of_le (Array.getElem?_eq_some_iff.1 h.row).1 hB)).trans h.row, h.reads.below hb hB, h.cap, h.top, h.ne⟩
theorem Rd.lt {w : World} {g b off m c : Nat} {zs : List Int} (h : Rd w g b off m c zs) : g < w.heap.size := (Array.getElem?_eq_some_iff.1 h.row).1
theorem Rd.set {w : World} {g b off m c : Nat} {zs : List Int} (h : Rd w g b off m c zs) {off2 m2 c2 : Nat} {ys : List Int} (hr : ∀ U, Reads U (some ⟨b, off, none⟩) m zs → Reads U (some ⟨b, off2, none⟩) m2 ys) (hc : m2 ≤ c2) (ht : c2 ≤ c) : Rd (w.setCell ⟨g, 0, none⟩ (.slice (some ⟨b, off2, none⟩) m2 c2)) g b off2 m2 c2 ys := by
  have hg := grown_set7 w g 0 (.slice (some ⟨b, off2, none⟩) m2 c2)
  refine ⟨heap_setCell_same w g 0 _ 100 (.slice (some ⟨b, off2, none⟩) m2 c2) h.row, hr _ (h.reads.other hg (fun a e => ?_)), hc, Nat.le_trans ht h.top, h.ne⟩
  cases e
  exact fun e => h.ne (Option.some.inj e)

set_option maxHeartbeats 1600000 in
theorem take_yes {g b off m c : Nat} {zs : List Int} {w : World} (h : Rd w g b off m c zs) (k : Nat) (hk : k ≤ m) :
    Calls Try.prog 85 #[.pointer (some ⟨g, 0, none⟩), .int .i64 (k : Int)] w fun e w' => e = .returned (.slice (some ⟨b, off, none⟩) k c) ∧ w.grownBy w' (some g) ∧ ∃ off2 c2, Rd w' g b off2 (m - k) c2 (zs.drop k) := by
  have c0 : w.cell? ⟨g, 0, none⟩ = some (.slice (some ⟨b, off, none⟩) m c) := by rw [cell_of_row _ _ _ _ _ _ h.row]; rfl
  have f0 : w.frozen? ⟨g, 0, none⟩ = false := frozen_of_row _ _ _ _ _ h.row
  have hm := h.cap
  have hc := h.top
  have q1 : ¬ (m : Int) < (k : Int) := by omega
  have q2 : (0 : Int) ≤ (k : Int) := by omega
  have q3 : (k : Int) ≤ (c : Int) := by omega
  have q4 : (k : Int) ≤ (m : Int) := by omega
  have H := hid h
  clear h
  by_cases hck : c = k
  · subst hck
    obtain rfl : m = c := by omega
    have R := hid (H.out.set (off2 := off) (m2 := m - m) (c2 := 0) (ys := zs.drop m) (fun U hU => cut_end hU) (by omega) (by omega))
    go_enter Try.func85, Try.ntmps85
    go_wp2_with fail
    go_ret
    exact ⟨rfl, grown_set7 _ _ _ _, off, 0, by simpa using R.out⟩
  · have R := hid (H.out.set (off2 := off + k) (m2 := m - k) (c2 := c - k) (ys := zs.drop k) (fun U hU => cut_mid hU hk) (by omega) (by omega))
    go_enter Try.func85, Try.ntmps85
    go_wp2_with fail
    go_ret
    exact ⟨rfl, grown_set7 _ _ _ _, off + k, c - k, R.out⟩
set_option maxHeartbeats 1600000 in
theorem take_no {g m c : Nat} {ad : Option Addr} (k : Nat) {w : World} (h : w.heap[g]? = some (.cells #[.slice ad m c] 100 (0, 0))) (hk : m < k) (hk2 : k ≤ 1000) :
    Calls Try.prog 85 #[.pointer (some ⟨g, 0, none⟩), .int .i64 (k : Int)] w fun e w' => e = .panicked [{ v := .iface 75 (.int .i64 ((k : Int) - (m : Int))), recovered := false }] ∧ w' = w := by
  have c0 : w.cell? ⟨g, 0, none⟩ = some (.slice ad m c) := by rw [cell_of_row _ _ _ _ _ _ h]; rfl
  have q1 : (m : Int) < (k : Int) := by omega
  go_enter Try.func85, Try.ntmps85
  go_wp2_with fail
  exact ⟨rfl, rfl, rfl⟩

set_option maxHeartbeats 1600000 in
theorem number_yes {g b off m c : Nat} {zs : List Int} {w : World} (h : Rd w g b off m c zs) (k : Nat) (hk : k ≤ m) (hk8 : k ≤ 8) :
    Calls Try.prog 84 #[.pointer (some ⟨g, 0, none⟩), .int .i64 (k : Int)] w fun e w' => e = .returned (.int .i64 (numOf (zs.take k) 0 (k : Int))) ∧ w.grownBy w' (some g) ∧ ∃ off2 c2, Rd w' g b off2 (m - k) c2 (zs.drop k) := by
  have H := hid h
  clear h
  go_enter Try.func84, Try.ntmps84
  go_wp2_with fail
  refine (take_yes H.out k hk).mono ?_
  rintro e w1 ⟨rfl, hg, off2, c2, hR⟩
  have HR := hid hR
  have HG := hid hg
  have RF := reads_front (H.out.reads.other hg (fun a e => by cases e; exact fun e => H.out.ne (Option.some.inj e))) hk
  clear hR hg
  go_wp2_with fail
  refine (impl_GetNum c RF (by omega) 0 (k : Int) (by omega) (by omega) (by omega)).mono ?_
  rintro e w2 ⟨rfl, e2⟩
  subst w2
  go_wp2_with fail
  go_ret
  exact ⟨rfl, HG.out, off2, c2, HR.out⟩
set_option maxHeartbeats 1600000 in
theorem number_no {g m c : Nat} {ad : Option Addr} (k : Nat) {w : World} (h : w.heap[g]? = some (.cells #[.slice ad m c] 100 (0, 0))) (hk : m < k) (hk2 : k ≤ 1000) :
    Calls Try.prog 84 #[.pointer (some ⟨g, 0, none⟩), .int .i64 (k : Int)] w fun e w' => e = .panicked [{ v := .iface 75 (.int .i64 ((k : Int) - (m : Int))), recovered := false }] ∧ w' = w := by
  have H := hid h
  clear h
  go_enter Try.func84, Try.ntmps84
  go_wp2_with fail
  refine (take_no k H.out hk hk2).mono ?_
  rintro e w1 ⟨rfl, e1⟩
  subst w1
  go_wp2_with fail
  exact ⟨rfl, rfl, rfl⟩
end Go.Proofs.Ytioefplkadpfnaa
/- The contract of the library's slices.Backward over slots, and of the program's withoutFreeEnd. Conditions: lists of at most 2^20. -/













namespace Go.Proofs.Ytioefplkadpfnaa
open Go.RowKit Go.Shelf
attribute [local go_sem] Oper.semAt_some

/-- What has come when k rounds are over. -/
def dn (n k : Nat) : List Nat := (List.range k).map fun j => n - 1 - j
theorem dn_succ (n k : Nat) : dn n (k + 1) = dn n k ++ [n - 1 - k] := by simp [dn, List.range_succ]
theorem dn_length (n k : Nat) : (dn n k).length = k := by simp [dn]

def enB (n : Nat) (da : Nat → Option Addr) (dl dc : Nat → Nat) (i : Nat) : Array Value := #[.int .i64 ((min i (n - 1) : Nat) : Int), .slice (da (min i (n - 1))) (dl (min i (n - 1))) (dc (min i (n - 1)))]

set_option maxRecDepth 100000 in
set_option maxHeartbeats 2000000 in
theorem back1 (F : Fence) (n : Nat) (h9 : F.fn 104) (hro : F.round = none) (hn : 1 ≤ n) (l Bs n₀ : Nat) (aW : Option Addr) (nW cW : Nat) (hnW : nW ≤ 1048576) (da : Nat → Option Addr) (dl dc : Nat → Nat) (J Jx : List Nat → World → Prop)
    (hY : ∀ pre x W, J pre W → pre.length < nW → YieldAt F (n - 1) Try.prog l (enB nW da dl dc x) W fun e W' =>
      (e = .returned (.bool true) ∧ J (pre ++ [x]) W' ∧ Below n₀ W W') ∨ (e = .returned (.bool false) ∧ Jx (pre ++ [x]) W'))
    (W : World) (hBs : W.cell? ⟨Bs, 0, none⟩ = some (.slice aW nW cW)) (hBn : Bs < n₀) (hc : nW = 0 ∨ ∃ b off, aW = some ⟨b, off, none⟩ ∧ b < n₀ ∧ ∀ j, j < nW → W.cell? ⟨b, off + j, none⟩ = some (.slice (da j) (dl j) (dc j))) (h0 : J [] W) :
    CallsIn F n Try.prog 104 #[.func (.yield l) #[] #[], .pointer (some ⟨Bs, 0, none⟩)] W fun e W' => (∃ v, e = .returned v) ∧
      ((∃ ys, ys = dn nW nW ∧ J ys W') ∨ (∃ pre, (∃ k, k ≤ nW ∧ pre = dn nW k) ∧ Jx pre W')) := by
  refine callsIn_of_wp Try.func104 rfl h9 ?_ hro
  simp only [Try.ntmps104, List.size_toArray, List.length_cons, List.length_nil, Nat.reduceAdd, Nat.reduceSub, Array.replicate_succ, Array.replicate_zero, List.push_toArray, List.append_toArray, List.nil_append, List.cons_append]
  gi_wp2
  gi_loopw [3] (fun i wr => ∃ k : Nat, k ≤ nW ∧ i = .int .i64 ((nW : Int) - 1 - k) ∧ J (dn nW k) wr ∧ Below n₀ W wr) (fun i _ => (intOf i + 1).toNat)
  case atStart => exact ⟨0, Nat.zero_le _, by simp, h0, Below.refl _ _⟩
  case round =>
    obtain ⟨k, hk, rfl, hJs, hnx⟩ := hrel
    have hbs := (hnx.cell (p := ⟨Bs, 0, none⟩) hBn).trans hBs
    by_cases hlt : k < nW
    · obtain ⟨q, hq⟩ : ∃ q, nW - 1 - k = q := ⟨_, rfl⟩
      have hq1 : (nW : Int) - 1 - k = (q : Int) := by omega
      have hq0 : (0 : Int) ≤ (q : Int) := by omega
      have hqn : (q : Int) < (nW : Int) := by omega
      rcases hc with h00 | ⟨b, off, rfl, hb, hcc⟩
      · omega
      have hcx := (hnx.cell (p := ⟨b, off + q, none⟩) hb).trans (hcc q (by omega))
      obtain ⟨fn, tmps, assign, body, hy, hR⟩ := hY _ q wr hJs (by rw [dn_length]; exact hlt)
      unfold enB at hy
      rw [show min q (nW - 1) = q by omega] at hy
      rw [hq1]
      have HQ := hid hq
      have HQ1 := hid hq1
      clear hq hq1
      gi_wp2
      refine hR.mono ?_
      rintro e W3 (⟨rfl, hJ3, hk3⟩ | ⟨rfl, hJx3⟩)
      · gi_wp2
        go_roundw
        case rel => exact ⟨k + 1, by omega, by have := HQ1.out; simp; omega, by rw [dn_succ, HQ.out]; exact hJ3, hnx.trans hk3⟩
        case measure => simp [intOf]
      · gi_wp2
        refine bodyPost_ret (results_none rfl _ _ _) rfl ?_
        exact ⟨⟨_, rfl⟩, .inr ⟨_, ⟨k + 1, by omega, by rw [dn_succ, HQ.out]⟩, hJx3⟩⟩
    · obtain rfl : k = nW := by omega
      have hneg : ¬ (0 : Int) ≤ (k : Int) - 1 - k := by omega
      gi_wp2
      go_end0
      exact ⟨⟨_, rfl⟩, .inl hJs⟩

set_option maxHeartbeats 1000000 in
theorem back_in (F : Fence) (n : Nat) (h5 : F.fn 98) (hro : F.round = none) (a : Option Addr) (len cap : Nat) (w : World) :
    CallsIn F n Try.prog 98 #[.slice a len cap] w fun e w' => e = .returned (.func (.func 104) #[] #[.pointer (some ⟨w.heap.size, 0, none⟩)]) ∧ w' = w.alloc (.cells #[.slice a len cap] 24) := by
  refine callsIn_of_wp Try.func98 rfl h5 ?_ hro
  simp only [Try.ntmps98, List.size_toArray, List.length_cons, List.length_nil, Nat.reduceAdd, Nat.reduceSub, Array.replicate_succ, Array.replicate_zero, List.push_toArray, List.append_toArray, List.nil_append, List.cons_append]
  gi_wp2
  go_ret
  exact ⟨rfl, rfl⟩

/-- The slots, by their places. -/
structure ByS (W : World) (n₀ : Nat) (aW : Option Addr) (nW : Nat) (da : Nat → Option Addr) (dl dc : Nat → Nat) : Prop where
  c : nW = 0 ∨ ∃ b off, aW = some ⟨b, off, none⟩ ∧ b < n₀ ∧ ∀ j, j < nW → W.cell? ⟨b, off + j, none⟩ = some (.slice (da j) (dl j) (dc j))
theorem ByS.below {W W' : World} {n₀ : Nat} {aW : Option Addr} {nW : Nat} {da : Nat → Option Addr} {dl dc : Nat → Nat} (h : ByS W n₀ aW nW da dl dc) (b : Below n₀ W W') : ByS W' n₀ aW nW da dl dc := by
  refine ⟨h.c.imp id ?_⟩
  rintro ⟨bb, off, e, hb, hc⟩
  exact ⟨bb, off, e, hb, fun j hj => (b.cell (p := ⟨bb, off + j, none⟩) hb).trans (hc j hj)⟩

theorem back_stops (F : Fence) (n : Nat) (h9 : F.fn 104) (hro : F.round = none) (hn : 1 ≤ n) (Bs n₀ : Nat) (aW : Option Addr) (nW cW : Nat) (hnW : nW ≤ 1048576) (da : Nat → Option Addr) (dl dc : Nat → Nat) (w : World) (hBs : Bs < w.heap.size) (hBn : Bs < n₀) (hn₀ : n₀ ≤ w.heap.size)
    (hc : w.cell? ⟨Bs, 0, none⟩ = some (.slice aW nW cW)) (hI : ByS w n₀ aW nW da dl dc) :
    SeqStopsK F n Try.prog 104 #[.pointer (some ⟨Bs, 0, none⟩)] (enB nW da dl dc) (Below n₀) (fun ys => ys = dn nW nW) (fun pre => ∃ k, k ≤ nW ∧ pre = dn nW k) nW w := fun l J Jx W hW _ _ hY h0 => by
  have hc' := (hW.cell (p := ⟨Bs, 0, none⟩) hBs).trans hc
  exact back1 F n h9 hro hn l Bs n₀ aW nW cW hnW da dl dc J Jx hY W hc' hBn (hI.below (hW.mono hn₀)).c h0

set_option maxRecDepth 100000 in
set_option maxHeartbeats 4000000 in
theorem without_walk {aW : Option Addr} {nW : Nat} (cW : Nat) (hnW : nW ≤ 1048576) (da : Nat → Option Addr) (dl dc : Nat → Nat) {w : World} (hI : ByS w w.heap.size aW nW da dl dc) (hcap : nW ≤ cW) :
    Calls Try.prog 82 #[.slice aW nW cW] w fun e W' =>
      ((e = .returned (.slice none 0 0) ∧ ∀ j, j < nW → dl j = 0) ∨ (∃ k : Nat, k < nW ∧ e = .returned (.slice aW (k + 1) cW) ∧ dl k ≠ 0 ∧ ∀ j, k < j → j < nW → dl j = 0)) ∧ Below w.heap.size w W' := by
  refine (callsIn_wide (n := 5)).1 ?_
  refine callsIn_of_wp_marks Try.func82 rfl trivial ?_ rfl
  simp only [Try.ntmps82, List.size_toArray, List.length_cons, List.length_nil, Nat.reduceAdd, Nat.reduceSub, Array.replicate_succ, Array.replicate_zero, List.push_toArray, List.append_toArray, List.nil_append, List.cons_append]
  gi_wp2_with (refine ⟨trivial, ?_⟩; gi_at_call 98; refine (back_in Fence.wide (5 - 1) trivial rfl _ _ _ _).mono ?_; rintro e w' ⟨rfl, rfl⟩)
  have bA := Boxed.new w 24 (.slice aW nW cW)
  have bR := Boxed.new (w.alloc (.cells #[.slice aW nW cW] 24)) 24 (.slice none 0 0)
  have bN := Boxed.new ((w.alloc (.cells #[.slice aW nW cW] 24)).alloc (.cells #[.slice none 0 0] 24)) 24 (.slice aW nW cW)
  simp only [World.size_alloc] at bR bN
  have hB0 : Below w.heap.size w (((w.alloc (.cells #[.slice aW nW cW] 24)).alloc (.cells #[.slice none 0 0] 24)).alloc (.cells #[.slice aW nW cW] 24)) := (((Below.refl _ w).alloc (Nat.le_refl _) _).alloc (by simp) _).alloc (by simp; omega) _
  refine wpIn_rangeFunc_ownH (F := Fence.wide) rfl (by omega) (gf := 104) (lb := #[.pointer (some ⟨w.heap.size + 1 + 1, 0, none⟩)]) rfl trivial (enters_of Try.func104 (by kernel_rfl) rfl)
    (back_stops Fence.wide (5 - 1) trivial rfl (by omega) (w.heap.size + 1 + 1) (w.heap.size + 3) aW nW cW hnW da dl dc _ (by simp) (by omega) (by simp) bN.cell ⟨(hI.below hB0).c.imp id (fun ⟨b, off, e, hb, hc⟩ => ⟨b, off, e, by omega, hc⟩)⟩) belowK_t (belowK_b (by simp)) (Below.refl _ _) (fun _ => rfl)
    (fun pre W => ((∀ y ∈ pre, dl (min y (nW - 1)) = 0) ∧ W.cell? ⟨w.heap.size, 0, none⟩ = some (.slice aW nW cW) ∧ W.cell? ⟨w.heap.size + 1, 0, none⟩ = some (.slice none 0 0) ∧ W.frozen? ⟨w.heap.size + 1, 0, none⟩ = false ∧ W.cell? ⟨w.heap.size + 1 + 1, 0, none⟩ = some (.slice aW nW cW)) ∧ Below w.heap.size w W)
    (fun c pre W => (c = .ret ∧ ∃ ini last, pre = ini ++ [last] ∧ (∀ y ∈ ini, dl (min y (nW - 1)) = 0) ∧ dl (min last (nW - 1)) ≠ 0 ∧ W.cell? ⟨w.heap.size + 1, 0, none⟩ = some (.slice aW (min last (nW - 1) + 1) cW)) ∧ Below w.heap.size w W)
    (OwnFrom.and (Own.from (fun s A B row hs hg hr => ⟨hs.1, cell_kept hs.2.1 hg hr, cell_kept hs.2.2.1 hg hr, (frozen_kept hs.2.2.1 hg hr).trans hs.2.2.2.1, cell_kept hs.2.2.2.2 hg hr⟩) _) (ownFrom_below (Nat.le_refl _) (by simp; omega)))
    (fun c => OwnFrom.and (Own.from (fun s A B row hs hg hr => by obtain ⟨hc, ini, last, e1, e2, e3, e4⟩ := hs; exact ⟨hc, ini, last, e1, e2, e3, cell_kept e4 hg hr⟩) _) (ownFrom_below (Nat.le_refl _) (by simp; omega)))
    ⟨⟨by simp, ((bA.alloc _).alloc _).cell, (bR.alloc _).cell, (bR.alloc _).frozen, bN.cell⟩, hB0⟩
    (fun x a' W => a' = { tmps := #[.slice aW nW cW, .pointer (some ⟨w.heap.size, 0, none⟩), .pointer (some ⟨w.heap.size + 1, 0, none⟩), .int .i64 ((min x (nW - 1) : Nat) : Int), .slice (da (min x (nW - 1))) (dl (min x (nW - 1))) (dc (min x (nW - 1))), .slice aW nW cW, .func (.func 104) #[] #[.pointer (some ⟨w.heap.size + 1 + 1, 0, none⟩)], .int .i64 ((min x (nW - 1) : Nat) : Int), .slice (da (min x (nW - 1))) (dl (min x (nW - 1))) (dc (min x (nW - 1))), undef, undef, undef, undef, undef, undef, undef], defers := [] })
    (fun x a' => Own.from (fun s A B row hs hg hr => hs) _)
    ?assign ?body ?done ?stop
  case assign =>
    rintro l pre x W K ⟨⟨hp, hca, hcr, hfr, hcn⟩, hB⟩ hK
    unfold enB
    generalize min x (nW - 1) = y at *
    gi_wp2
    exact hK _ _ (KeepsFrom.refl _ _) (Below.refl _ _) ⟨⟨hp, hca, hcr, hfr, hcn⟩, hB⟩ rfl
  case body =>
    rintro l pre x a' W hl hlr ⟨⟨hp, hca, hcr, hfr, hcn⟩, hB⟩ rfl hlt
    obtain ⟨y, hy⟩ : ∃ y, min x (nW - 1) = y := ⟨_, rfl⟩
    have hyn : y < nW := by omega
    have hyn' : (y : Int) < (nW : Int) := by omega
    have hyc : y + 1 ≤ cW := by omega
    have hyc' : (y : Int) + 1 ≤ (cW : Int) := by omega
    have hy0 : (0 : Int) ≤ (y : Int) := by omega
    have HY := hid hy
    rw [hy]
    clear hy
    obtain ⟨z, hz⟩ : ∃ z, dl y = z := ⟨_, rfl⟩
    rw [hz]
    have HZ := hid hz
    clear hz
    by_cases hz0 : z = 0
    · subst hz0
      gi_wp2_with (refine ⟨trivial, ?_⟩; gi_at_call 53; refine (CallsIn.inRound l ((callsIn_wide (n := _)).2 (impl_isFree _ _ _ _))).mono ?_; rintro e w' ⟨rfl, rfl⟩)
      exact ⟨KeepsFrom.refl _ _, Below.refl _ _, ⟨fun y hy => (List.mem_append.1 hy).elim (hp y) (fun e => by simp at e; subst e; rw [HY.out]; exact HZ.out), hca, hcr, hfr, hcn⟩, hB⟩
    · have q0 : decide (z = 0) = false := decide_eq_false hz0
      have HZ0 := hid hz0
      clear hz0
      rcases hI.c with h0 | ⟨b, off, rfl, _, _⟩
      · omega
      gi_wp2_with (refine ⟨trivial, ?_⟩; gi_at_call 53; refine (CallsIn.inRound l ((callsIn_wide (n := _)).2 (impl_isFree _ _ _ _))).mono ?_; rintro e w' ⟨rfl, rfl⟩)
      exact ⟨(KeepsOthers.setCell _ _ _).from _, ⟨rfl, pre, x, rfl, hp, by rw [HY.out, HZ.out]; exact HZ0.out, by rw [HY.out]; exact World.cell?_setCell_same' _ _ _ (by rw [hcr]; rfl)⟩, hB.setCell (p := ⟨w.heap.size + 1, 0, none⟩) (by simp) _⟩
  case done =>
    rintro Dd ys W hD rfl ⟨⟨hne, hca, hcr, hfr, hcn⟩, hB⟩ hK
    have HNE := hid hne
    have HKK := hid hK
    have HBB := hid hB
    clear hne hK hB hca hcn
    gi_wp2
    have HK2 : (W.setCell ⟨w.heap.size + 1, 0, none⟩ (.slice none 0 0)).heap[Dd]? = some (.deferred (some [])) := (KeepsOthers.setCell W ⟨w.heap.size + 1, 0, none⟩ (.slice none 0 0)).same Dd _ HKK.out rfl
    refine ⟨by simp, .inl ⟨_, _, rfl, run_takeDeferred HK2, ?_⟩⟩
    have hc5 := cell_kept (W := W.setCell ⟨w.heap.size + 1, 0, none⟩ (.slice none 0 0)) (World.cell?_setCell_same' W ⟨w.heap.size + 1, 0, none⟩ (.slice none 0 0) (by rw [hcr]; rfl)) (grownBy_putObj' _ Dd (.deferred none)) (fun r e => by cases e; exact ⟨_, HK2, rfl⟩)
    refine ⟨.slice none 0 0, ?_, .inl ⟨rfl, fun j hj => ?_⟩, (HBB.out.setCell (p := ⟨w.heap.size + 1, 0, none⟩) (by simp) _).trans (belowK_b (w := w) (Nat.le_refl _) _ Dd _ _ (by simp at hD; omega) HK2 rfl rfl)⟩
    · simp [results, Try.f82, go_sem, hc5]
    · have := HNE.out j (by simp only [dn, List.mem_map, List.mem_range]; exact ⟨nW - 1 - j, by omega, by omega⟩)
      rwa [show min j (nW - 1) = j by omega] at this
  case stop =>
    rintro Dd c pre W hD ⟨k, hk, rfl⟩ ⟨⟨rfl, ini, last, e1, e2, e3, hcr⟩, hB⟩ hK
    gi_wp2
    refine ⟨by simp, .inl ⟨_, _, rfl, run_takeDeferred hK, ?_⟩⟩
    have hc5 := cell_kept hcr (grownBy_putObj' _ Dd (.deferred none)) (fun r e => by cases e; exact ⟨_, hK, rfl⟩)
    obtain ⟨k', rfl⟩ : ∃ k', k = k' + 1 := by
      cases k with
      | zero => simp [dn] at e1
      | succ k' => exact ⟨k', rfl⟩
    rw [dn_succ] at e1
    obtain ⟨rfl, e5⟩ := List.append_inj' e1 rfl
    obtain rfl : nW - 1 - k' = last := by simpa using e5
    have e6 : min (nW - 1 - k') (nW - 1) = nW - 1 - k' := by omega
    rw [e6] at e3 hc5
    refine ⟨.slice aW (nW - 1 - k' + 1) cW, ?_, .inr ⟨nW - 1 - k', by omega, rfl, e3, fun j hj hjn => ?_⟩, hB.trans (belowK_b (w := w) (Nat.le_refl _) W Dd _ _ (by simp at hD; omega) hK rfl rfl)⟩
    · simp [results, Try.f82, go_sem, hc5]
    · have := e2 j (by simp only [dn, List.mem_map, List.mem_range]; exact ⟨nW - 1 - j, by omega, by omega⟩)
      rwa [show min j (nW - 1) = j by omega] at this

/-- What is left is what trimP leaves. -/
theorem impl_without {a : Option Addr} {n : Nat} (c : Nat) {ts : List (List Int)} {xs : List Value} {lo : Nat} {w : World} (hl : ts.length = n) (hn : n ≤ 1048576) (ho : w.ownsRow lo 22 1 (.slice a n c) n xs) (hb : Bands w lo w.heap.size xs ts) :
    Calls Try.prog 82 #[.slice a n c] w fun e w' => ∃ a' c', e = .returned (.slice a' (trimP ts).length c') ∧ OwnP w' lo w.heap.size (.slice a' (trimP ts).length c') (trimP ts) ∧ Below w.heap.size w w' := by
  have hcap : n ≤ c := by
    rcases ho.2 with ⟨e, e0⟩ | ⟨g', cap, cur, e, _, _, h1, _⟩
    · omega
    · obtain ⟨_, _, rfl⟩ := Value.slice.inj e; exact h1
  have hI : ByS w w.heap.size a n (fun j => match xs.getD j nilS with | .slice x _ _ => x | _ => none) (fun j => (ts.getD j []).length) (fun j => match xs.getD j nilS with | .slice _ _ x => x | _ => 0) := by
    refine ⟨?_⟩
    rcases ho.2 with ⟨_, e0⟩ | ⟨g, cap, cur, e, _, hg, _⟩
    · exact .inl e0
    · obtain ⟨rfl, _, rfl⟩ := Value.slice.inj e
      refine .inr ⟨g, 0, rfl, (Array.getElem?_eq_some_iff.1 hg).1, fun j hj => ?_⟩
      rw [Nat.zero_add, cell_getD ho hj]
      obtain ⟨x, y, e, _⟩ := hb.row j
      rw [e]
  refine (without_walk c hn _ _ _ hI hcap).mono ?_
  rintro e w' ⟨h1 | ⟨k, hk, rfl, h2, h3⟩, b⟩
  · obtain ⟨rfl, h1⟩ := h1
    rw [trimP_all (fun j hj => h1 j (by omega))]
    exact ⟨none, 0, rfl, OwnP.nil _ _ _, b⟩
  · rw [trimP_stop (by omega) h2 (fun j h4 h5 => h3 j h4 (by omega))]
    rcases ho.2 with ⟨_, e0⟩ | ⟨g, cap, cur, e, hbg, hg, hnc, hcm, hcs, ht⟩
    · omega
    obtain ⟨rfl, _, rfl⟩ := Value.slice.inj e
    have hxl := ho.1
    have o1 : w.ownsRow lo 22 1 (.slice (some ⟨g, 0, none⟩) (k + 1) c) (k + 1) (xs.take (k + 1)) := by
      refine ⟨by simp; omega, .inr ⟨g, c, cur, rfl, hbg, hg, by omega, hcm, hcs, ?_⟩⟩
      have : (cur.toList.take (n * 1)).take ((k + 1) * 1) = xs.take ((k + 1) * 1) := by rw [ht]
      rw [List.take_take, Nat.min_eq_left (by omega)] at this
      simpa using this
    have b1 : Bands w lo w.heap.size (xs.take (k + 1)) (ts.take (k + 1)) := by
      have := hb
      rw [← List.take_append_drop (k + 1) xs, ← List.take_append_drop (k + 1) ts] at this
      have hl2 := hb.len
      exact this.left (by simp; omega)
    have e7 : (ts.take (k + 1)).length = k + 1 := by simp; omega
    refine ⟨_, c, by rw [e7], ?_, b⟩
    have : OwnP w lo w.heap.size (.slice (some ⟨g, 0, none⟩) (ts.take (k + 1)).length c) (ts.take (k + 1)) := ⟨⟨_, by rw [e7]; exact o1, b1⟩, fun q hq => by rw [e7] at hq; exact (o1.lt q hq).2⟩
    exact this.below b (Nat.le_refl _)
end Go.Proofs.Ytioefplkadpfnaa
/- The contract of the program's with: a page's slots copied, one laid in, free ones at the end left out. Conditions: at most 2^20 slots of at most 2^20 bytes. -/

namespace Go.Proofs.Ytioefplkadpfnaa
open Go.RowKit
set_option maxRecDepth 100000

theorem set_rep {α : Type} (xs : List α) (k n : Nat) (z v : α) (hx : xs.length = k) (hk : k < n) : (xs ++ List.replicate (n - k) z).set k v = (xs ++ [v]) ++ List.replicate (n - (k + 1)) z := by
  rw [List.set_append_right _ _ (by omega), hx, Nat.sub_self, show n - k = (n - (k + 1)) + 1 by omega, List.replicate_succ, List.set_cons_zero]
  simp


theorem Bands.nils (w : World) (lo hi N : Nat) : Bands w lo hi (List.replicate N nilS) (List.replicate N []) := by
  induction N with
  | zero => exact Bands.nil w lo hi
  | succ N ih =>
    rw [List.replicate_succ', List.replicate_succ']
    refine ⟨by simp, fun i => ?_, ?_, ?_, fun i j => ?_⟩
    · rw [getD_app, getD_app]
      simp only [List.length_replicate]
      split
      · exact ih.own i
      · have e1 : [nilS].getD (i - N) nilS = nilS := by
          cases i - N <;> simp
        have e2 : ([[]] : List (List Int)).getD (i - N) [] = [] := by
          cases i - N <;> simp
        rw [e1, e2]
        exact World.ownsRow_nil w lo 5 1
    · intro x hx g hg
      have : x = nilS := by
        rcases List.mem_append.1 hx with h | h
        · exact (List.mem_replicate.1 h).2
        · simpa using h
      subst this
      cases hg
    · rw [← List.replicate_succ']
      refine List.pairwise_replicate.2 (.inr ?_)
      exact .inl rfl
    · rw [getD_app]
      simp only [List.length_replicate]
      split
      · exact ih.bd i j
      · have e2 : ([[]] : List (List Int)).getD (i - N) [] = [] := by
          cases i - N <;> simp
        rw [e2]; simp
/-- A slice of one slice. -/
theorem reads_one {w : World} {g : Nat} {v : Value} {z : List Int} {t : TypeId} (h : w.heap[g]? = some (.cells #[v] t (0, 0))) (r : Row w v z) : ReadsS w (some ⟨g, 0, none⟩) [z] := by
  refine ⟨.inr ⟨g, 0, rfl, fun i hi => ?_⟩⟩
  obtain rfl : i = 0 := by simp at hi; omega
  exact ⟨v, by rw [cell_of_row _ _ _ _ _ _ h]; rfl, r⟩

set_option maxHeartbeats 6400000 in
theorem impl_with (L : Int) {a : Option Addr} {n : Nat} (c : Nat) {ss : List (List Int)} (q : Nat) {ad : Option Addr} {nd : Nat} (cd : Nat) {zs : List Int} (lsn : Int) {w : World} (h : ReadsS w a ss) (hl : ss.length = n) (hn : n ≤ 1048575) (hb : ∀ i, (ss.getD i []).length ≤ 1048576) (hq : q < 1048576) (hd : Reads w ad nd zs) (hnil : ad = none → cd = 0) (hnd : nd ≤ 1048576) :
    Calls Try.prog 55 #[.agg #[.int .i64 L, .slice a n c], .int .i64 (q : Int), .slice ad nd cd, .int .i64 lsn] w fun e w' => ∃ a' c', e = .returned (.agg #[.int .i64 lsn, .slice a' (trimP (layP ss q zs)).length c']) ∧ OwnP w' w.heap.size w'.heap.size (.slice a' (trimP (layP ss q zs)).length c') (trimP (layP ss q zs)) ∧ Below w.heap.size w w' := by
  obtain ⟨i0, hi, hz0, hz1, hz2⟩ := info_parts Try.info22
  have HNI := hid hnil
  have HDL := hid hd.len
  have HB := hid (two w (.cells #[.int .i64 L, .slice a n c] 26) (.cells #[.int .i64 0, .slice none 0 0] 26))
  have HX := hid (show ArgP _ _ _ _ _ _ _ from (ArgP.new L n c h 26 w.heap.size rfl).alloc (.cells #[.int .i64 0, .slice none 0 0] 26))
  have R1 := hid (heap_new2 w (.cells #[.int .i64 L, .slice a n c] 26) (.cells #[.int .i64 0, .slice none 0 0] 26))
  have HSZ := hid (show ((w.alloc (.cells #[.int .i64 L, .slice a n c] 26)).alloc (.cells #[.int .i64 0, .slice none 0 0] 26)).heap.size = w.heap.size + 2 by simp)
  have HD0 := hid hd
  have H0 := hid h
  have HSB := hid hb
  clear h hd hnil hb
  by_cases hm : (n : Int) < (q : Int) + 1
  · have hNN : n ≤ (q + 1) := by omega
    have hN2 : q < (q + 1) := by omega
    have hN3 : (q + 1) ≤ 1048576 := by omega
    have HMX : Hid ((q + 1) - n = q + 1 - n) := hid (by omega)
    go_enter Try.func55, Try.ntmps55
    go_wp2_with (at_make; refine wpList_make_full _ rfl _ _ 24 rfl (w.heap.size + 2) 22 i0 (.slice none 0 0) 1 Try.underlying24 hi hz0 hz1 _ _ _ _ ((q + 1)) rfl rfl (by omega) (by omega) ?b2 ?b3 ?b4 ?_)
    case b2 => omega
    case b3 => unfold maxLen; omega
    intro w0 hown0 hgrow0
    rw [toList_madeCells_one] at hown0
    have b := (Below.refl ((w.alloc (.cells #[.int .i64 L, .slice a n c] 26)).alloc (.cells #[.int .i64 0, .slice none 0 0] 26)).heap.size ((w.alloc (.cells #[.int .i64 L, .slice a n c] 26)).alloc (.cells #[.int .i64 0, .slice none 0 0] 26))).grown hgrow0 (Nat.le_refl _) (fun k h => by cases h)
    have HX1 := hid (HX.out.below b (Nat.le_refl _))
    have R2 := hid ((b.block _ (by have := HSZ.out; omega)).trans R1.out)
    have HB1 := hid (HB.out.trans (b.mono HB.out.size))
    have HSZ1 := hid (show w.heap.size + 2 ≤ w0.heap.size by have := HSZ.out; have := b.size; omega)
    have HO := hid (show w0.ownsRow (w.heap.size + 2) 22 1 (.slice (some ⟨w.heap.size + 1 + 1, 0, none⟩) ((q + 1)) ((q + 1))) ((q + 1)) (List.replicate ((q + 1)) nilS) from by simpa [nilS] using hown0)
    clear hm hown0 hgrow0 b
    obtain ⟨c0, c1⟩ := HX1.out.box
    go_wp2_with fail
    clear c0 c1
    go_loopw [22] (fun i wr => ∃ (k : Nat) (xs : List Value), k ≤ n ∧ i = .int .i64 k ∧ Hid (wr.ownsRow (w.heap.size + 2) 22 1 (.slice (some ⟨w.heap.size + 1 + 1, 0, none⟩) ((q + 1)) ((q + 1))) ((q + 1)) xs) ∧ Hid (Bands wr (w.heap.size + 2) wr.heap.size xs (ss.take k ++ List.replicate ((q + 1) - k) [])) ∧ Hid (wr.heap[w.heap.size + 1]? = some (.cells #[.int .i64 0, .slice none 0 0] 26)) ∧ Hid (Below w.heap.size w wr) ∧ Hid (w.heap.size + 2 ≤ wr.heap.size)) (fun i _ => n - (intOf i).toNat)
    case atStart => exact ⟨0, List.replicate ((q + 1)) nilS, Nat.zero_le _, rfl, HO, hid (by rw [List.take_zero, List.nil_append, Nat.sub_zero]; exact Bands.nils _ _ _ _), R2, HB1, HSZ1⟩
    case round =>
      clear HX1 R2 HB1 HSZ1 HO
      obtain ⟨k, xs, hk, rfl, hown, hB, R2, hnx, hsz⟩ := hrel
      by_cases hlt : k < n
      · have hlt' : (k : Int) < (n : Int) := by omega
        have hk0 : (0 : Int) ≤ (k : Int) := by omega
        have hkN : (k : Int) < (((q + 1) : Nat) : Int) := by omega
        rcases H0.out.cells with h0 | ⟨b, off, rfl, hc⟩
        · omega
        obtain ⟨v, hcx0, ax, cx, rfl, hr0, hnil, hmx⟩ := hc k (by omega)
        have hbl := World.block_lt_of_cell? w _ hcx0
        have hcx : wr.cell? ⟨b, off + k, none⟩ = some (.slice ax (ss.getD k []).length cx) := (hnx.out.cell (by exact hbl)).trans hcx0
        have hrow := hid (show Row w (.slice ax (ss.getD k []).length cx) (ss.getD k []) from ⟨ax, cx, rfl, hr0, hnil, hmx⟩)
        have HT := hid (take_snoc ss k [] (by omega))
        have HBD := hid hr0.bd
        have hlen := HSB.out k
        generalize ss.getD k [] = zk at *
        obtain ⟨m, hm⟩ : ∃ m, zk.length = m := ⟨_, rfl⟩
        have HM := hid hm
        rw [hm] at hcx hlen
        clear hc hcx0 hr0 hnil hmx hm hbl
        go_wp2_with fail
        have bX := Below.alloc1 wr (.cells #[.slice ax m cx] 22)
        have RX := reads_one (heap_alloc_new wr (.cells #[.slice ax m cx] 22)) (show Row _ _ zk from by have := hrow.out.below ((hnx.out.trans (bX.mono hnx.out.size))) (Nat.le_refl _); rw [HM.out] at this; exact this)
        refine (impl_joined (m := 1) 1 RX rfl (by omega) (by simp [tot]; have := HM.out; omega)).mono ?_
        rintro e w1 ⟨v1, rfl, o, b1⟩
        have b2 := (bX.trans (b1.mono bX.size))
        have o2 : w1.ownsRow wr.heap.size 5 1 v1 zk.length (bys zk) := owns_lower (by simpa [tot] using o) bX.size
        have hown1 := owns_below b2 (Nat.le_refl _) hown.out
        have hcy : ∃ v, w1.cell? ⟨w.heap.size + 1 + 1, k, none⟩ = some v := ⟨_, (hown1.cellAt k (by omega)).trans (List.getElem?_eq_getElem (by have := hown1.1; omega))⟩
        obtain ⟨v, hcy⟩ := hcy
        have hfr : w1.frozen? ⟨w.heap.size + 1 + 1, k, none⟩ = false := hown1.frozenAt k
        obtain ⟨av, cv, rfl⟩ := own_sl o2
        have R := hown1.stored k (.slice av zk.length cv)
        have hB1 := (hB.out.agree (Agree.below b2 (Nat.le_refl _))).swap (i := k) hsz.out b2.size (by simp; omega) o2 HBD.out (Nat.le_refl _)
        rw [set_rep _ k ((q + 1)) [] zk (by simp; omega) (by omega), ← HT.out] at hB1
        have HB2 := hid ((hB1.beside R.2 (fun i => owns_ne (hB1.own i) hown1 (by decide))).mono (Nat.le_refl _) R.2.size)
        have HR := hid R.1
        have R3 := hid ((R.2.block _ (by have := hsz.out; have := b2.size; omega) (by simp)).trans ((b2.block _ (by have := hsz.out; omega)).trans R2.out))
        have HN2 := hid ((hnx.out.trans (b2.mono hnx.out.size)).setCell (p := ⟨w.heap.size + 1 + 1, k, none⟩) (by show w.heap.size ≤ w.heap.size + 1 + 1; omega) (.slice av zk.length cv))
        have HS2 := hid (show w.heap.size + 2 ≤ (w1.setCell ⟨w.heap.size + 1 + 1, k, none⟩ (.slice av zk.length cv)).heap.size by rw [set_size]; have := hsz.out; have := b2.size; omega)
        clear bX RX o b1 b2 o2 hown1 R hB1 hown hB R2 hnx hsz hcx
        go_wp2_with fail
        go_roundw
        case rel => exact ⟨k + 1, xs.set k (.slice av zk.length cv), by omega, by go_num, HR, HB2, R3, HN2, HS2⟩
        case measure => simp [intOf]; omega
      · have hlt' : ¬ (k : Int) < (n : Int) := by omega
        obtain rfl : n = k := by omega
        have hqN : (q : Int) < (((q + 1) : Nat) : Int) := by omega
        have hq0 : (0 : Int) ≤ (q : Int) := by omega
        have HL0 := hid (show (ss ++ List.replicate ((q + 1) - n) []).set q zs = layP ss q zs by unfold layP; rw [hl]; first | done | rw [HMX.out])
        go_wp2_with fail
        have bX := Below.alloc1 wr (.cells #[.slice ad nd cd] 22)
        have RX := reads_one (heap_alloc_new wr (.cells #[.slice ad nd cd] 22)) (show Row _ _ zs from ⟨ad, cd, by rw [HDL.out], by rw [HDL.out]; exact HD0.out.below (hnx.out.trans (bX.mono hnx.out.size)) (Nat.le_refl _), HNI.out, by have := HDL.out; unfold maxLen; omega⟩)
        refine (impl_joined (m := 1) 1 RX rfl (by omega) (by simp [tot]; have := HDL.out; omega)).mono ?_
        rintro e w1 ⟨v1, rfl, o, b1⟩
        have b2 := (bX.trans (b1.mono bX.size))
        have o2 : w1.ownsRow wr.heap.size 5 1 v1 zs.length (bys zs) := owns_lower (by simpa [tot] using o) bX.size
        have hown1 := owns_below b2 (Nat.le_refl _) hown.out
        have hcy : ∃ v, w1.cell? ⟨w.heap.size + 1 + 1, q, none⟩ = some v := ⟨_, (hown1.cellAt q (by omega)).trans (List.getElem?_eq_getElem (by have := hown1.1; omega))⟩
        obtain ⟨v, hcy⟩ := hcy
        have hfr : w1.frozen? ⟨w.heap.size + 1 + 1, q, none⟩ = false := hown1.frozenAt q
        obtain ⟨av, cv, rfl⟩ := own_sl o2
        have R := hown1.stored q (.slice av zs.length cv)
        have hBt := hB.out
        rw [List.take_of_length_le (by omega)] at hBt
        have hB1 := (hBt.agree (Agree.below b2 (Nat.le_refl _))).swap (i := q) hsz.out b2.size (by simp; omega) o2 HD0.out.bd (Nat.le_refl _)
        rw [HL0.out] at hB1
        have HB2 := hid ((hB1.beside R.2 (fun i => owns_ne (hB1.own i) hown1 (by decide))).mono (Nat.le_refl _) R.2.size)
        have HR := hid R.1
        have R3 := hid ((R.2.block _ (by have := hsz.out; have := b2.size; omega) (by simp)).trans ((b2.block _ (by have := hsz.out; omega)).trans R2.out))
        have HN2 := hid ((hnx.out.trans (b2.mono hnx.out.size)).setCell (p := ⟨w.heap.size + 1 + 1, q, none⟩) (by show w.heap.size ≤ w.heap.size + 1 + 1; omega) (.slice av zs.length cv))
        have HS2 := hid (show w.heap.size + 2 ≤ (w1.setCell ⟨w.heap.size + 1 + 1, q, none⟩ (.slice av zs.length cv)).heap.size by rw [set_size]; have := hsz.out; have := b2.size; omega)
        clear bX RX o b1 b2 o2 hown1 R hB1 hBt hown hB R2 hnx hsz
        go_wp2_with fail
        clear hcy hfr
        generalize w1.setCell ⟨w.heap.size + 1 + 1, q, none⟩ (.slice av zs.length cv) = W5 at *
        refine (impl_without ((q + 1)) (ts := layP ss q zs) (by rw [layP_length, hl]; omega) (by omega) HR.out HB2.out).mono ?_
        rintro e W6 ⟨a6, c6, rfl, o6, b6⟩
        have hz6 := b6.size
        have HO6 := hid (o6.mono (lo' := w.heap.size + 2) (hi' := W6.heap.size) (Nat.le_refl _) hz6)
        have R6 := hid ((b6.block _ (by have := HS2.out; omega)).trans R3.out)
        have HB6 := hid (HN2.out.trans (b6.mono HN2.out.size))
        have HS6 := hid (show w.heap.size + 2 ≤ W6.heap.size by have := HS2.out; omega)
        obtain ⟨m6, hm6⟩ : ∃ m6, (trimP (layP ss q zs)).length = m6 := ⟨_, rfl⟩
        have HM6 := hid hm6
        rw [hm6] at HO6 ⊢
        clear o6 b6 hz6 hm6 HR HB2 R3 HN2 HS2
        have T1 := heap_setCell_same W6 (w.heap.size + 1) 0 _ 26 (.int .i64 lsn) R6.out
        have T2 := hid (heap_setCell_same _ (w.heap.size + 1) 1 _ 26 (.slice a6 m6 c6) T1)
        have B6 := hid ((HB6.out.setCell (p := ⟨w.heap.size + 1, 0, none⟩) (by simp) (.int .i64 lsn)).setCell (p := ⟨w.heap.size + 1, 1, none⟩) (by simp) (.slice a6 m6 c6))
        have O6 := hid (HO6.out.agree (w' := (W6.setCell ⟨w.heap.size + 1, 0, none⟩ (.int .i64 lsn)).setCell ⟨w.heap.size + 1, 1, none⟩ (.slice a6 m6 c6)) (fun k h1 _ => (heap_set_ne _ _ _ _ _ (by omega)).trans (heap_set_ne _ _ _ _ _ (by omega))))
        have r0 : W6.cell? ⟨w.heap.size + 1, 0, none⟩ = some (.int .i64 0) := cell_of_row _ _ 0 _ _ _ R6.out
        have r1 : W6.cell? ⟨w.heap.size + 1, 1, none⟩ = some (.slice none 0 0) := cell_of_row _ _ 1 _ _ _ R6.out
        have rf0 : W6.frozen? ⟨w.heap.size + 1, 0, none⟩ = false := frozen_of_row _ _ _ _ _ R6.out
        have rf1 : W6.frozen? ⟨w.heap.size + 1, 1, none⟩ = false := frozen_of_row _ _ _ _ _ R6.out
        clear T1
        go_wp2_with fail
        exact bodyPost_ret (results_cell_row Try.results55 _ _ (w.heap.size + 1) 26 _ (0, 0) _ rfl T2.out Try.underlying26 rfl size_pg) rfl ⟨a6, c6, by rw [HM6.out]; rfl, by rw [HM6.out]; exact O6.out.mono (by omega) (by simp only [set_size]; exact Nat.le_refl _), B6.out⟩
  · have hNN : n ≤ n := by omega
    have hN2 : q < n := by omega
    have hN3 : n ≤ 1048576 := by omega
    have HMX : Hid (n - n = q + 1 - n) := hid (by omega)
    go_enter Try.func55, Try.ntmps55
    go_wp2_with (at_make; refine wpList_make_full _ rfl _ _ 24 rfl (w.heap.size + 2) 22 i0 (.slice none 0 0) 1 Try.underlying24 hi hz0 hz1 _ _ _ _ (n) rfl rfl (by omega) (by omega) ?b2 ?b3 ?b4 ?_)
    case b2 => omega
    case b3 => unfold maxLen; omega
    intro w0 hown0 hgrow0
    rw [toList_madeCells_one] at hown0
    have b := (Below.refl ((w.alloc (.cells #[.int .i64 L, .slice a n c] 26)).alloc (.cells #[.int .i64 0, .slice none 0 0] 26)).heap.size ((w.alloc (.cells #[.int .i64 L, .slice a n c] 26)).alloc (.cells #[.int .i64 0, .slice none 0 0] 26))).grown hgrow0 (Nat.le_refl _) (fun k h => by cases h)
    have HX1 := hid (HX.out.below b (Nat.le_refl _))
    have R2 := hid ((b.block _ (by have := HSZ.out; omega)).trans R1.out)
    have HB1 := hid (HB.out.trans (b.mono HB.out.size))
    have HSZ1 := hid (show w.heap.size + 2 ≤ w0.heap.size by have := HSZ.out; have := b.size; omega)
    have HO := hid (show w0.ownsRow (w.heap.size + 2) 22 1 (.slice (some ⟨w.heap.size + 1 + 1, 0, none⟩) (n) (n)) (n) (List.replicate (n) nilS) from by simpa [nilS] using hown0)
    clear hm hown0 hgrow0 b
    obtain ⟨c0, c1⟩ := HX1.out.box
    go_wp2_with fail
    clear c0 c1
    go_loopw [22] (fun i wr => ∃ (k : Nat) (xs : List Value), k ≤ n ∧ i = .int .i64 k ∧ Hid (wr.ownsRow (w.heap.size + 2) 22 1 (.slice (some ⟨w.heap.size + 1 + 1, 0, none⟩) (n) (n)) (n) xs) ∧ Hid (Bands wr (w.heap.size + 2) wr.heap.size xs (ss.take k ++ List.replicate (n - k) [])) ∧ Hid (wr.heap[w.heap.size + 1]? = some (.cells #[.int .i64 0, .slice none 0 0] 26)) ∧ Hid (Below w.heap.size w wr) ∧ Hid (w.heap.size + 2 ≤ wr.heap.size)) (fun i _ => n - (intOf i).toNat)
    case atStart => exact ⟨0, List.replicate (n) nilS, Nat.zero_le _, rfl, HO, hid (by rw [List.take_zero, List.nil_append, Nat.sub_zero]; exact Bands.nils _ _ _ _), R2, HB1, HSZ1⟩
    case round =>
      clear HX1 R2 HB1 HSZ1 HO
      obtain ⟨k, xs, hk, rfl, hown, hB, R2, hnx, hsz⟩ := hrel
      by_cases hlt : k < n
      · have hlt' : (k : Int) < (n : Int) := by omega
        have hk0 : (0 : Int) ≤ (k : Int) := by omega
        have hkN : (k : Int) < ((n : Nat) : Int) := by omega
        rcases H0.out.cells with h0 | ⟨b, off, rfl, hc⟩
        · omega
        obtain ⟨v, hcx0, ax, cx, rfl, hr0, hnil, hmx⟩ := hc k (by omega)
        have hbl := World.block_lt_of_cell? w _ hcx0
        have hcx : wr.cell? ⟨b, off + k, none⟩ = some (.slice ax (ss.getD k []).length cx) := (hnx.out.cell (by exact hbl)).trans hcx0
        have hrow := hid (show Row w (.slice ax (ss.getD k []).length cx) (ss.getD k []) from ⟨ax, cx, rfl, hr0, hnil, hmx⟩)
        have HT := hid (take_snoc ss k [] (by omega))
        have HBD := hid hr0.bd
        have hlen := HSB.out k
        generalize ss.getD k [] = zk at *
        obtain ⟨m, hm⟩ : ∃ m, zk.length = m := ⟨_, rfl⟩
        have HM := hid hm
        rw [hm] at hcx hlen
        clear hc hcx0 hr0 hnil hmx hm hbl
        go_wp2_with fail
        have bX := Below.alloc1 wr (.cells #[.slice ax m cx] 22)
        have RX := reads_one (heap_alloc_new wr (.cells #[.slice ax m cx] 22)) (show Row _ _ zk from by have := hrow.out.below ((hnx.out.trans (bX.mono hnx.out.size))) (Nat.le_refl _); rw [HM.out] at this; exact this)
        refine (impl_joined (m := 1) 1 RX rfl (by omega) (by simp [tot]; have := HM.out; omega)).mono ?_
        rintro e w1 ⟨v1, rfl, o, b1⟩
        have b2 := (bX.trans (b1.mono bX.size))
        have o2 : w1.ownsRow wr.heap.size 5 1 v1 zk.length (bys zk) := owns_lower (by simpa [tot] using o) bX.size
        have hown1 := owns_below b2 (Nat.le_refl _) hown.out
        have hcy : ∃ v, w1.cell? ⟨w.heap.size + 1 + 1, k, none⟩ = some v := ⟨_, (hown1.cellAt k (by omega)).trans (List.getElem?_eq_getElem (by have := hown1.1; omega))⟩
        obtain ⟨v, hcy⟩ := hcy
        have hfr : w1.frozen? ⟨w.heap.size + 1 + 1, k, none⟩ = false := hown1.frozenAt k
        obtain ⟨av, cv, rfl⟩ := own_sl o2
        have R := hown1.stored k (.slice av zk.length cv)
        have hB1 := (hB.out.agree (Agree.below b2 (Nat.le_refl _))).swap (i := k) hsz.out b2.size (by simp; omega) o2 HBD.out (Nat.le_refl _)
        rw [set_rep _ k (n) [] zk (by simp; omega) (by omega), ← HT.out] at hB1
        have HB2 := hid ((hB1.beside R.2 (fun i => owns_ne (hB1.own i) hown1 (by decide))).mono (Nat.le_refl _) R.2.size)
        have HR := hid R.1
        have R3 := hid ((R.2.block _ (by have := hsz.out; have := b2.size; omega) (by simp)).trans ((b2.block _ (by have := hsz.out; omega)).trans R2.out))
        have HN2 := hid ((hnx.out.trans (b2.mono hnx.out.size)).setCell (p := ⟨w.heap.size + 1 + 1, k, none⟩) (by show w.heap.size ≤ w.heap.size + 1 + 1; omega) (.slice av zk.length cv))
        have HS2 := hid (show w.heap.size + 2 ≤ (w1.setCell ⟨w.heap.size + 1 + 1, k, none⟩ (.slice av zk.length cv)).heap.size by rw [set_size]; have := hsz.out; have := b2.size; omega)
        clear bX RX o b1 b2 o2 hown1 R hB1 hown hB R2 hnx hsz hcx
        go_wp2_with fail
        go_roundw
        case rel => exact ⟨k + 1, xs.set k (.slice av zk.length cv), by omega, by go_num, HR, HB2, R3, HN2, HS2⟩
        case measure => simp [intOf]; omega
      · have hlt' : ¬ (k : Int) < (n : Int) := by omega
        obtain rfl : n = k := by omega
        have hqN : (q : Int) < ((n : Nat) : Int) := by omega
        have hq0 : (0 : Int) ≤ (q : Int) := by omega
        have HL0 := hid (show (ss ++ List.replicate (n - n) []).set q zs = layP ss q zs by unfold layP; rw [hl]; first | done | rw [HMX.out])
        go_wp2_with fail
        have bX := Below.alloc1 wr (.cells #[.slice ad nd cd] 22)
        have RX := reads_one (heap_alloc_new wr (.cells #[.slice ad nd cd] 22)) (show Row _ _ zs from ⟨ad, cd, by rw [HDL.out], by rw [HDL.out]; exact HD0.out.below (hnx.out.trans (bX.mono hnx.out.size)) (Nat.le_refl _), HNI.out, by have := HDL.out; unfold maxLen; omega⟩)
        refine (impl_joined (m := 1) 1 RX rfl (by omega) (by simp [tot]; have := HDL.out; omega)).mono ?_
        rintro e w1 ⟨v1, rfl, o, b1⟩
        have b2 := (bX.trans (b1.mono bX.size))
        have o2 : w1.ownsRow wr.heap.size 5 1 v1 zs.length (bys zs) := owns_lower (by simpa [tot] using o) bX.size
        have hown1 := owns_below b2 (Nat.le_refl _) hown.out
        have hcy : ∃ v, w1.cell? ⟨w.heap.size + 1 + 1, q, none⟩ = some v := ⟨_, (hown1.cellAt q (by omega)).trans (List.getElem?_eq_getElem (by have := hown1.1; omega))⟩
        obtain ⟨v, hcy⟩ := hcy
        have hfr : w1.frozen? ⟨w.heap.size + 1 + 1, q, none⟩ = false := hown1.frozenAt q
        obtain ⟨av, cv, rfl⟩ := own_sl o2
        have R := hown1.stored q (.slice av zs.length cv)
        have hBt := hB.out
        rw [List.take_of_length_le (by omega)] at hBt
        have hB1 := (hBt.agree (Agree.below b2 (Nat.le_refl _))).swap (i := q) hsz.out b2.size (by simp; omega) o2 HD0.out.bd (Nat.le_refl _)
        rw [HL0.out] at hB1
        have HB2 := hid ((hB1.beside R.2 (fun i => owns_ne (hB1.own i) hown1 (by decide))).mono (Nat.le_refl _) R.2.size)
        have HR := hid R.1
        have R3 := hid ((R.2.block _ (by have := hsz.out; have := b2.size; omega) (by simp)).trans ((b2.block _ (by have := hsz.out; omega)).trans R2.out))
        have HN2 := hid ((hnx.out.trans (b2.mono hnx.out.size)).setCell (p := ⟨w.heap.size + 1 + 1, q, none⟩) (by show w.heap.size ≤ w.heap.size + 1 + 1; omega) (.slice av zs.length cv))
        have HS2 := hid (show w.heap.size + 2 ≤ (w1.setCell ⟨w.heap.size + 1 + 1, q, none⟩ (.slice av zs.length cv)).heap.size by rw [set_size]; have := hsz.out; have := b2.size; omega)
        clear bX RX o b1 b2 o2 hown1 R hB1 hBt hown hB R2 hnx hsz
        go_wp2_with fail
        clear hcy hfr
        generalize w1.setCell ⟨w.heap.size + 1 + 1, q, none⟩ (.slice av zs.length cv) = W5 at *
        refine (impl_without (n) (ts := layP ss q zs) (by rw [layP_length, hl]; omega) (by omega) HR.out HB2.out).mono ?_
        rintro e W6 ⟨a6, c6, rfl, o6, b6⟩
        have hz6 := b6.size
        have HO6 := hid (o6.mono (lo' := w.heap.size + 2) (hi' := W6.heap.size) (Nat.le_refl _) hz6)
        have R6 := hid ((b6.block _ (by have := HS2.out; omega)).trans R3.out)
        have HB6 := hid (HN2.out.trans (b6.mono HN2.out.size))
        have HS6 := hid (show w.heap.size + 2 ≤ W6.heap.size by have := HS2.out; omega)
        obtain ⟨m6, hm6⟩ : ∃ m6, (trimP (layP ss q zs)).length = m6 := ⟨_, rfl⟩
        have HM6 := hid hm6
        rw [hm6] at HO6 ⊢
        clear o6 b6 hz6 hm6 HR HB2 R3 HN2 HS2
        have T1 := heap_setCell_same W6 (w.heap.size + 1) 0 _ 26 (.int .i64 lsn) R6.out
        have T2 := hid (heap_setCell_same _ (w.heap.size + 1) 1 _ 26 (.slice a6 m6 c6) T1)
        have B6 := hid ((HB6.out.setCell (p := ⟨w.heap.size + 1, 0, none⟩) (by simp) (.int .i64 lsn)).setCell (p := ⟨w.heap.size + 1, 1, none⟩) (by simp) (.slice a6 m6 c6))
        have O6 := hid (HO6.out.agree (w' := (W6.setCell ⟨w.heap.size + 1, 0, none⟩ (.int .i64 lsn)).setCell ⟨w.heap.size + 1, 1, none⟩ (.slice a6 m6 c6)) (fun k h1 _ => (heap_set_ne _ _ _ _ _ (by omega)).trans (heap_set_ne _ _ _ _ _ (by omega))))
        have r0 : W6.cell? ⟨w.heap.size + 1, 0, none⟩ = some (.int .i64 0) := cell_of_row _ _ 0 _ _ _ R6.out
        have r1 : W6.cell? ⟨w.heap.size + 1, 1, none⟩ = some (.slice none 0 0) := cell_of_row _ _ 1 _ _ _ R6.out
        have rf0 : W6.frozen? ⟨w.heap.size + 1, 0, none⟩ = false := frozen_of_row _ _ _ _ _ R6.out
        have rf1 : W6.frozen? ⟨w.heap.size + 1, 1, none⟩ = false := frozen_of_row _ _ _ _ _ R6.out
        clear T1
        go_wp2_with fail
        exact bodyPost_ret (results_cell_row Try.results55 _ _ (w.heap.size + 1) 26 _ (0, 0) _ rfl T2.out Try.underlying26 rfl size_pg) rfl ⟨a6, c6, by rw [HM6.out]; rfl, by rw [HM6.out]; exact O6.out.mono (by omega) (by simp only [set_size]; exact Nat.le_refl _), B6.out⟩
end Go.Proofs.Ytioefplkadpfnaa
/- The contract of the program's body. Conditions: a page. -/



namespace Go.Proofs.Ytioefplkadpfnaa
open Go.RowKit
set_option maxRecDepth 100000

/-- A row of the call's own, as a row that is read. -/
theorem row_of {w : World} {base m : Nat} {a : Option Addr} {c : Nat} {zs : List Int} (o : w.ownsRow base 5 1 (.slice a m c) m (bys zs)) (hb : bdZ zs) (hm : m ≤ 9223372036854775807) : Row w (.slice a m c) zs := by
  have hl : zs.length = m := by have := o.1; simpa [bys] using this
  subst hl
  exact Row.own o hb
theorem reads_two {w : World} {g : Nat} {v1 v2 : Value} {z1 z2 : List Int} {t : TypeId} (h : w.heap[g]? = some (.cells #[v1, v2] t (0, 0))) (r1 : Row w v1 z1) (r2 : Row w v2 z2) : ReadsS w (some ⟨g, 0, none⟩) [z1, z2] := by
  refine ⟨.inr ⟨g, 0, rfl, fun i hi => ?_⟩⟩
  simp at hi
  match i, hi with
  | 0, _ => exact ⟨v1, by rw [cell_of_row _ _ _ _ _ _ h]; rfl, r1⟩
  | 1, _ => exact ⟨v2, by rw [cell_of_row _ _ _ _ _ _ h]; rfl, r2⟩
theorem reads_three {w : World} {g : Nat} {v1 v2 v3 : Value} {z1 z2 z3 : List Int} {t : TypeId} (h : w.heap[g]? = some (.cells #[v1, v2, v3] t (0, 0))) (r1 : Row w v1 z1) (r2 : Row w v2 z2) (r3 : Row w v3 z3) : ReadsS w (some ⟨g, 0, none⟩) [z1, z2, z3] := by
  refine ⟨.inr ⟨g, 0, rfl, fun i hi => ?_⟩⟩
  simp at hi
  match i, hi with
  | 0, _ => exact ⟨v1, by rw [cell_of_row _ _ _ _ _ _ h]; rfl, r1⟩
  | 1, _ => exact ⟨v2, by rw [cell_of_row _ _ _ _ _ _ h]; rfl, r2⟩
  | 2, _ => exact ⟨v3, by rw [cell_of_row _ _ _ _ _ _ h]; rfl, r3⟩
theorem putL1 (n : Nat) (h : n ≤ 16) : putL (n : Int) 1 = [(n : Int)] := by
  rw [show (1 : Int) = ((1 : Nat) : Int) from rfl, putL_yes n 1 (by omega) (by omega) (by simp [sh]; omega)]
  simp [dig, sh]; omega

set_option maxHeartbeats 6400000 in
theorem impl_body (L : Int) {a : Option Addr} {n : Nat} (c : Nat) {ss : List (List Int)} {w : World} (h : ReadsS w a ss) (hl : ss.length = n) (hok : okP L ss = true) :
    Calls Try.prog 64 #[.agg #[.int .i64 L, .slice a n c]] w fun e w' => ∃ g c', e = .returned (.slice (some ⟨g, 0, none⟩) 240 c') ∧ w'.ownsRow w.heap.size 5 1 (.slice (some ⟨g, 0, none⟩) 240 c') 240 (bys (bodyP ss)) ∧ Below w.heap.size w w' := by
  obtain ⟨i0, hi, hz0, hz1, hz2⟩ := info_parts Try.info5
  have HX0 := hid (ArgP.new L n c h 26 w.heap.size rfl)
  have HB0 := hid (Below.alloc1 w (.cells #[.int .i64 L, .slice a n c] 26))
  have hn16 : n ≤ 16 := by have := (okP_of hok).n; omega
  have HZ := hid (okP_of hok).z
  have HTT := hid (okP_of hok).t
  have HHB := hid (headP_bd hok)
  have HSB := hid h.bd
  have HBD := hid (bodyP_bd hok h.bd)
  have HP1 := hid (putL1 n hn16)
  clear h hok
  go_enter Try.func64, Try.ntmps64
  go_wp2_with fail
  generalize w.alloc (.cells #[.int .i64 L, .slice a n c] 26) = W at *
  have HS0 := hid (show w.heap.size < W.heap.size from HX0.out.lt)
  go_loopw [3, 10] (fun s i wr => ∃ (k : Nat) (a1 : Option Addr) (c1 : Nat), k ≤ n ∧ i = .int .i64 k ∧ s = .slice a1 k c1 ∧ Hid (wr.ownsRow W.heap.size 5 1 (.slice a1 k c1) k (bys (lensP (ss.take k)))) ∧ Hid (Below W.heap.size W wr)) (fun _ i _ => n - (intOf i).toNat)
  case atStart => exact ⟨0, none, 0, Nat.zero_le _, rfl, rfl, hid (World.ownsRow_nil _ _ _ _), hid (Below.refl _ _)⟩
  case round =>
    obtain ⟨k, a1, c1, hk, rfl, rfl, HO, HW⟩ := hrel
    have HX := hid (HX0.out.below HW.out (Nat.le_refl _))
    by_cases hlt : k < n
    · have hlt' : (k : Int) < (n : Int) := by omega
      have hk0 : (0 : Int) ≤ (k : Int) := by omega
      rcases HX.out.reads.cells with h0 | ⟨b, off, rfl, hc⟩
      · omega
      obtain ⟨v, hcx, ax, cx, rfl, hr0, _, _⟩ := hc k (by omega)
      have HT := hid (lensP_snoc ss k (by omega))
      have hz92 := HZ.out k
      obtain ⟨z, hz⟩ : ∃ z, (ss.getD k []).length = z := ⟨_, rfl⟩
      rw [hz] at hcx HT hz92
      have hw8 := wrap8 z (by omega)
      clear hc hr0 hz
      go_wp2_with (at_builtin; refine wpList_append_row rfl _ _ 22 rfl W.heap.size 5 i0 (.int .u8 0) 1 1 Try.underlying22 hi hz0 hz1 hz2 rfl (by decide) _ _ _ rfl (HO.out.alloc _) (some ⟨wr.heap.size, 0, none⟩) 1 1 [.int .u8 (z : Int)] rfl ?b1 (.inr ⟨_, rfl, World.news_of_block (heap_alloc_new wr _)⟩) ?b5 ?b2 ?b3 ?b4 ?b6 ?_)
      case b1 => rfl
      case b5 => exact fun e => by cases e
      case b2 => intro u hu; simp at hu; subst hu; rfl
      case b3 => unfold maxLen; omega
      case b4 => omega
      case b6 => have := HW.out.size; simp; omega
      intro a2 c2 w2 o g
      have HO2 := hid (show w2.ownsRow W.heap.size 5 1 (.slice a2 (k + 1) c2) (k + 1) (bys (lensP (ss.take (k + 1)))) by rw [HT.out, bys_append]; exact o)
      have HW2 := hid ((HW.out.alloc HW.out.size _).grown g (by have := HW.out.size; simp; omega) (fun k hk => (HO.out.lt k hk).1))
      clear o g HO HW HX hcx
      go_wp2_with fail
      go_roundw
      case rel => exact ⟨k + 1, a2, c2, by omega, by go_num, rfl, HO2, HW2⟩
      case measure => simp [intOf]; omega
    · have hlt' : ¬ (k : Int) < (n : Int) := by omega
      obtain rfl : n = k := by omega
      have HO1 := hid (show wr.ownsRow W.heap.size 5 1 (.slice a1 n c1) n (bys (lensP ss)) by have := HO.out; rw [List.take_of_length_le (by omega)] at this; exact this)
      have HL1 := hid (show bdZ (lensP ss) from HHB.out.sub (fun x hx => by unfold headP; exact List.mem_cons_of_mem _ hx))
      have HB := hid (HB0.out.trans (HW.out.mono HB0.out.size))
      have HSZ := hid (show w.heap.size < wr.heap.size by have := HS0.out; have := HW.out.size; omega)
      clear HO HW HX0 HB0
      go_wp2_with fail
      replace HX := hid (HX.out.below ((Still.drew wr).below _) (Nat.le_refl _))
      replace HO1 := hid (owns_below ((Still.drew wr).below _) (Nat.le_refl _) HO1.out)
      replace HB := hid (HB.out.trans ((Still.drew wr).below _))
      replace HSZ := hid (show w.heap.size < wr.drew.heap.size from HSZ.out)
      refine region_K 99 (fun W => BoxP W w.heap.size L a n c) (by kernel_rfl) ?_ (fun hHeld => ?_)
      · exact HX.out.box
      generalize wr.drew = v0 at *
      refine anyK_take2 (i := 0) (v := ?v1) rfl (by kernel_rfl) (by kernel_rfl) (by kernel_rfl) (by rfl) (fun _ _ _ h => h) (by rfl) hHeld ?hy1 (some 21) (by rfl) ?rest1
      case hy1 => (intro W hSw; obtain ⟨r0, r1⟩ := hSw; go_simp; (try with_reducible rfl))
      try simp only [Act.put]
      try simp only [List.setIfInBounds_toArray]
      try simp only [List.set_cons_succ, List.set_cons_zero]
      refine anyK_take2 (i := 1) (v := ?v2) rfl (by kernel_rfl) (by kernel_rfl) (by kernel_rfl) (by rfl) (fun _ _ _ h => h) (by rfl) hHeld ?hy2 (some 22) (by rfl) ?rest2
      case hy2 => (intro W hSw; obtain ⟨r0, r1⟩ := hSw; go_simp; (try with_reducible rfl))
      try simp only [Act.put]
      try simp only [List.setIfInBounds_toArray]
      try simp only [List.set_cons_succ, List.set_cons_zero]
      refine anyK_take2 (i := 2) (v := ?v3) rfl (by kernel_rfl) (by kernel_rfl) (by kernel_rfl) (by rfl) (fun _ _ _ h => h) (by rfl) hHeld ?hy3 (some 23) (by rfl) ?rest3
      case hy3 => (intro W hSw; obtain ⟨r0, r1⟩ := hSw; go_simp; (try with_reducible rfl))
      try simp only [Act.put]
      try simp only [List.setIfInBounds_toArray]
      try simp only [List.set_cons_succ, List.set_cons_zero]
      refine anyK_take2 (i := 4) (v := ?v4) rfl (by kernel_rfl) (by kernel_rfl) (by kernel_rfl) (by rfl) (fun _ _ _ h => h) (by rfl) hHeld ?hy4 (some 25) (by rfl) ?rest4
      case hy4 => (intro W hSw; obtain ⟨r0, r1⟩ := hSw; go_simp; (try with_reducible rfl))
      try simp only [Act.put]
      try simp only [List.setIfInBounds_toArray]
      try simp only [List.set_cons_succ, List.set_cons_zero]
      refine anyK_take2 (i := 5) (v := ?v5) rfl (by kernel_rfl) (by kernel_rfl) (by kernel_rfl) (by rfl) (fun _ _ _ h => h) (by rfl) hHeld ?hy5 (some 26) (by rfl) ?rest5
      case hy5 => (intro W hSw; obtain ⟨r0, r1⟩ := hSw; go_simp; (try with_reducible rfl))
      try simp only [Act.put]
      try simp only [List.setIfInBounds_toArray]
      try simp only [List.set_cons_succ, List.set_cons_zero]
      refine anyK_take2 (i := 6) (v := ?v6) rfl (by kernel_rfl) (by kernel_rfl) (by kernel_rfl) (by rfl) (fun _ _ _ h => h) (by rfl) hHeld ?hy6 (some 27) (by rfl) ?rest6
      case hy6 => (intro W hSw; obtain ⟨r0, r1⟩ := hSw; go_simp; (try with_reducible rfl))
      try simp only [Act.put]
      try simp only [List.setIfInBounds_toArray]
      try simp only [List.set_cons_succ, List.set_cons_zero]
      refine anyK_step (i := 3) (by kernel_rfl) rfl (fun KP hK => ?_)
      go_simp
      refine (impl_PutNum (n : Int) 1 v0 (by omega)).mono ?_
      rintro e v1 ⟨x1, rfl, o, b⟩
      rw [HP1.out] at o
      obtain ⟨ap, cp, rfl⟩ := own_sl o
      have HP := hid o
      replace HX := hid (HX.out.below b (Nat.le_refl _))
      replace HO1 := hid (owns_below b (Nat.le_refl _) HO1.out)
      replace HB := hid (HB.out.trans (b.mono HB.out.size))
      replace HSZ := hid (Nat.lt_of_lt_of_le HSZ.out b.size)
      clear o b
      go_wp2_with fail
      refine hK.out _ _ ?_ (fun hH2 => ?_)
      · exact HX.out.box
      clear hK KP hHeld
      have hHeld := hH2
      clear hH2
      try simp only [Act.put]
      try simp only [List.setIfInBounds_toArray]
      try simp only [List.set_cons_succ, List.set_cons_zero]
      refine anyK_step (i := 7) (by kernel_rfl) rfl (fun KP hK => ?_)
      go_simp
      refine (impl_joined c HX.out.reads hl (by omega) (by have := HTT.out; omega)).mono ?_
      rintro e v2 ⟨x2, rfl, o, b⟩
      obtain ⟨aj, cj, rfl⟩ := own_sl o
      have HJ := hid o
      replace HX := hid (HX.out.below b (Nat.le_refl _))
      replace HO1 := hid (owns_below b (Nat.le_refl _) HO1.out)
      replace HP := hid (owns_below b (Nat.le_refl _) HP.out)
      replace HB := hid (HB.out.trans (b.mono HB.out.size))
      replace HSZ := hid (Nat.lt_of_lt_of_le HSZ.out b.size)
      clear o b
      go_wp2_with fail
      refine hK.out _ _ ?_ (fun hH2 => ?_)
      · exact HX.out.box
      clear hK KP hHeld
      have hHeld := hH2
      clear hH2
      try simp only [Act.put]
      try simp only [List.setIfInBounds_toArray]
      try simp only [List.set_cons_succ, List.set_cons_zero]
      refine anyK_step (i := 8) (by kernel_rfl) rfl (fun KP hK => ?_)
      go_simp
      have RG := heap_alloc_new v2 (.cells #[.slice ap [(n : Int)].length cp, .slice a1 n c1, .slice aj (tot ss) cj] 22)
      have bA := Below.alloc1 v2 (.cells #[.slice ap [(n : Int)].length cp, .slice a1 n c1, .slice aj (tot ss) cj] 22)
      replace HX := hid (HX.out.below bA (Nat.le_refl _))
      have R3 := hid (reads_three RG ((row_of HP.out (bdZ.mem (fun x hx => by simp at hx; subst hx; omega)) (by simp)).below bA (Nat.le_refl _)) ((row_of HO1.out HL1.out (by omega)).below bA (Nat.le_refl _)) ((row_of HJ.out (flat_bd HSB.out) (by have := HTT.out; omega)).below bA (Nat.le_refl _)))
      replace HB := hid (HB.out.trans (bA.mono HB.out.size))
      replace HSZ := hid (Nat.lt_of_lt_of_le HSZ.out bA.size)
      clear RG bA HP HO1 HJ
      refine hK.out _ _ ?_ (fun hH2 => ?_)
      · exact HX.out.box
      clear hK KP hHeld
      have hHeld := hH2
      clear hH2
      try simp only [Act.put]
      try simp only [List.setIfInBounds_toArray]
      try simp only [List.set_cons_succ, List.set_cons_zero]
      generalize v2.alloc (.cells #[.slice ap [(n : Int)].length cp, .slice a1 n c1, .slice aj (tot ss) cj] 22) = v3 at *
      refine anyK_step (i := 9) (by kernel_rfl) rfl (fun KP hK => ?_)
      go_simp
      refine (impl_joined (m := 3) 3 R3.out rfl (by omega) (by show [(n : Int)].length + ((lensP ss).length + (ss.flatten.length + 0)) ≤ 2097152; rw [lensP_len, flat_tot]; have := HTT.out; simp; omega)).mono ?_
      rintro e v4 ⟨x4, rfl, o, b⟩
      have e4 : tot [[(n : Int)], lensP ss, ss.flatten] = (headP ss ++ ss.flatten).length := by
        rw [headP_len]
        show [(n : Int)].length + ((lensP ss).length + (ss.flatten.length + 0)) = _
        rw [lensP_len, flat_tot]; simp; omega
      have e5 : [[(n : Int)], lensP ss, ss.flatten].flatten = headP ss ++ ss.flatten := by simp [headP, hl]
      rw [e4, e5] at o
      obtain ⟨N, hN⟩ : ∃ N, (headP ss ++ ss.flatten).length = N := ⟨_, rfl⟩
      have HN := hid hN
      have hN240 : N ≤ 240 := by rw [headP_len] at hN; have := HTT.out; omega
      obtain ⟨M, hM⟩ : ∃ M, 240 - N = M := ⟨_, rfl⟩
      have hMi : (240 : Int) - (N : Int) = (M : Int) := by omega
      have hM240 : M ≤ 240 := by omega
      have HMM := hid hM
      rw [hN] at o
      obtain ⟨au, cu, rfl⟩ := own_sl o
      have HU := hid o
      replace HX := hid (HX.out.below b (Nat.le_refl _))
      replace HB := hid (HB.out.trans (b.mono HB.out.size))
      replace HSZ := hid (Nat.lt_of_lt_of_le HSZ.out b.size)
      clear o b hN e4 e5 R3
      go_wp2_with fail
      refine hK.out _ _ ?_ (fun hH2 => ?_)
      · exact HX.out.box
      clear hK KP hHeld
      have hHeld := hH2
      clear hH2
      try simp only [Act.put]
      try simp only [List.setIfInBounds_toArray]
      try simp only [List.set_cons_succ, List.set_cons_zero]
      refine anyK_step (i := 10) (by kernel_rfl) rfl (fun KP hK => ?_)
      go_simp
      refine hK.out _ _ ?_ (fun hH2 => ?_)
      · exact HX.out.box
      clear hK KP hHeld
      have hHeld := hH2
      clear hH2
      try simp only [Act.put]
      try simp only [List.setIfInBounds_toArray]
      try simp only [List.set_cons_succ, List.set_cons_zero]
      refine anyK_done (by kernel_rfl) ?_ _
      clear hHeld hM
      go_wp2_with (at_make; refine wpList_make_full _ rfl _ _ 22 rfl v4.heap.size 5 i0 (.int .u8 0) 1 Try.underlying22 hi hz0 hz1 _ _ _ _ M rfl rfl (by omega) (by omega) ?m2 ?m3 (Nat.le_refl _) ?_)
      case m2 => first | (rw [hz2]; omega) | omega
      case m3 => unfold maxLen; omega
      intro v5 hown hgrow
      rw [toList_madeCells_one] at hown
      have b5 := (Below.refl v4.heap.size v4).grown hgrow (Nat.le_refl _) (fun k h => by cases h)
      have HZR := hid (show v5.ownsRow v4.heap.size 5 1 (.slice (some ⟨v4.heap.size, 0, none⟩) M M) M (bys (List.replicate M 0)) by simpa [bys] using hown)
      replace HU := hid (owns_below b5 (Nat.le_refl _) HU.out)
      replace HB := hid (HB.out.trans (b5.mono HB.out.size))
      clear hown hgrow b5 HX HSZ hMi
      go_wp2_with fail
      have RG := heap_alloc_new v5 (.cells #[.slice au N cu, .slice (some ⟨v4.heap.size, 0, none⟩) M M] 22)
      have bA := Below.alloc1 v5 (.cells #[.slice au N cu, .slice (some ⟨v4.heap.size, 0, none⟩) M M] 22)
      have R2 := reads_two RG ((row_of HU.out (HHB.out.app (flat_bd HSB.out)) (by omega)).below bA (Nat.le_refl _)) ((row_of HZR.out (bdZ.rep M) (by omega)).below bA (Nat.le_refl _))
      have e6 : tot [headP ss ++ ss.flatten, List.replicate M 0] = 240 := by
        show (headP ss ++ ss.flatten).length + ((List.replicate M (0 : Int)).length + 0) = 240
        rw [HN.out]; simp; have := HMM.out; omega
      have e7 : [headP ss ++ ss.flatten, List.replicate M 0].flatten = bodyP ss := by
        unfold bodyP fillP; rw [HN.out, HMM.out]; simp
      refine (impl_joined (m := 2) 2 R2 rfl (by omega) (by rw [e6]; omega)).mono ?_
      rintro e v6 ⟨x6, rfl, o, b⟩
      rw [e6, e7] at o
      obtain ⟨g6, c6, e8, _, _⟩ := o.form (by omega)
      subst e8
      have HF := hid (HB.out.trans ((bA.trans (b.mono bA.size)).mono HB.out.size))
      have HOO := hid (owns_lower o (show w.heap.size ≤ (v5.alloc (.cells #[.slice au N cu, .slice (some ⟨v4.heap.size, 0, none⟩) M M] 22)).heap.size by have := HB.out.size; have := bA.size; omega))
      clear o b RG bA R2 e6 e7 HU HZR HB
      go_wp2_with fail
      go_ret
      exact ⟨g6, c6, rfl, HOO.out, HF.out⟩
end Go.Proofs.Ytioefplkadpfnaa
/- The contract of the program's readSlots: the slots, or a panic where bytes lack. Conditions: a body of 240 bytes. -/


namespace Go.Proofs.Ytioefplkadpfnaa
open Go.RowKit
set_option maxRecDepth 100000

/-- What readSlots answers. -/
structure AnsQ (BB : List Int) (w : World) (e : Ending) (w' : World) : Prop where
  ex : (slotsZ BB = none ∧ ∃ t : Int, e = .panicked [{ v := .iface 75 (.int .i64 t), recovered := false }]) ∨ ∃ ss a' c', slotsZ BB = some ss ∧ e = .returned (.slice a' ss.length c') ∧ OwnP w' w.heap.size w'.heap.size (.slice a' ss.length c') ss
  bel : Below w.heap.size w w'

theorem wrapn7 (k : Nat) (h : k ≤ 255) : IntKind.i64.wrap (k : Int) = (k : Int) := by simp [IntKind.wrap, IntKind.bits, IntKind.signed]; omega
theorem num1 {BB : List Int} (hl : 1 ≤ BB.length) (hb : bdZ BB) : numOf (BB.take 1) 0 1 = ((lenB BB 0 : Nat) : Int) := by
  have h0 := hb 0
  have v : val (byteFrom (BB.take 1) 0) 0 1 = BB.getD 0 0 := by
    simp only [val, byteFrom]
    simp [List.getD]
  have := (num_yes (BB.take 1) 0 1 (by omega) (by omega) (by simp; omega) (by rw [v]; omega)).2
  rw [v] at this
  unfold lenB
  rw [Int.toNat_of_nonneg h0.1]
  exact this
theorem lenB_cast {BB : List Int} (hb : bdZ BB) (j : Nat) : BB.getD j 0 = ((lenB BB j : Nat) : Int) ∧ lenB BB j ≤ 255 := by
  have h := hb j
  unfold lenB
  rw [Int.toNat_of_nonneg h.1]
  exact ⟨rfl, by omega⟩

set_option maxHeartbeats 6400000 in
theorem impl_readSlots {b off c : Nat} {BB : List Int} {w : World} (h : Reads w (some ⟨b, off, none⟩) 240 BB) (hc : 240 ≤ c) (hc2 : c ≤ 9223372036854775807) :
    Calls Try.prog 86 #[.slice (some ⟨b, off, none⟩) 240 c] w fun e w' => AnsQ BB w e w' := by
  obtain ⟨i0, hi, hz0, hz1, hz2⟩ := info_parts Try.info22
  have hbl : b < w.heap.size := by
    rcases h.cells with h0 | ⟨b', off', e, hcc⟩
    · omega
    · cases e
      exact World.block_lt_of_cell? w _ (hcc 0 (by omega))
  have HBD := hid (show bdZ BB from h.bd)
  have HL := hid h.len
  have bA := Below.alloc1 w (.cells #[.slice (some ⟨b, off, none⟩) 240 c] 100)
  have HR := hid (show Rd (w.alloc (.cells #[.slice (some ⟨b, off, none⟩) 240 c] 100)) w.heap.size b off 240 c BB from ⟨heap_alloc_new w _, h.below bA (Nat.le_refl _), hc, hc2, by omega⟩)
  have HB := hid bA
  have ZA := hid (alloc_size w (.cells #[.slice (some ⟨b, off, none⟩) 240 c] 100))
  have HN1 := hid (num1 (BB := BB) (by have := HL.out; omega) HBD.out)
  clear bA h
  go_enter Try.func86, Try.ntmps86
  go_wp2_with fail
  generalize w.alloc (.cells #[.slice (some ⟨b, off, none⟩) 240 c] 100) = W at *
  refine (number_yes HR.out 1 (by omega) (by omega)).mono ?_
  rintro e w1 ⟨rfl, hg1, off1, c1, hR1⟩
  have HB1 := hid (HB.out.grown hg1 HB.out.size (fun k hk => by cases hk; exact Nat.le_refl _))
  have HR1 := hid hR1
  have Z1 := hid (show w.heap.size + 1 ≤ w1.heap.size by have := ZA.out; have := hg1.size; omega)
  clear hg1 hR1 HR HB
  obtain ⟨n, hn⟩ : ∃ n, lenB BB 0 = n := ⟨_, rfl⟩
  have hn255 : n ≤ 255 := by rw [← hn]; exact (lenB_cast HBD.out 0).2
  have HN := hid hn
  have e1 : numOf (BB.take 1) 0 ((1 : Nat) : Int) = (n : Int) := by rw [← hn]; exact HN1.out
  rw [e1]
  clear hn e1
  go_wp2_with fail
  by_cases hn239 : ¬ n ≤ 239
  · refine (take_no n HR1.out.row (by omega) (by omega)).mono ?_
    rintro e w2 ⟨rfl, e2⟩
    subst w2
    go_wp2_with fail
    exact ⟨rfl, .inl ⟨slotsZ_no1 (by rw [HN.out, HL.out]; omega), _, rfl⟩, HB1.out⟩
  replace hn239 := Decidable.not_not.1 hn239
  refine (take_yes HR1.out n (by omega)).mono ?_
  rintro e w2 ⟨rfl, hg2, off2, c2, hR2⟩
  rw [List.drop_drop] at hR2
  have RL := hid (show Reads w2 (some ⟨b, off1, none⟩) n ((BB.drop 1).take n) from reads_front (HR1.out.reads.other hg2 (fun a e => by cases e; exact fun e => HR1.out.ne (Option.some.inj e))) (by omega))
  have HB2 := hid (HB1.out.grown hg2 HB1.out.size (fun k hk => by cases hk; exact Nat.le_refl _))
  have HR2 := hid hR2
  have Z2 := hid (Nat.le_trans Z1.out hg2.size)
  clear hg2 hR2 HR1 HB1 Z1
  go_wp2_with fail
  go_loopw [5, 14] (fun s i wr => ∃ (j p : Nat) (acc : List (List Int)) (a5 : Option Addr) (c5 : Nat) (xs : List Value) (off3 c3 : Nat), j ≤ n ∧ i = .int .i64 j ∧ s = .slice a5 j c5 ∧ p ≤ 240 ∧ Hid (cutA BB j = some (acc, p)) ∧ Hid (acc.length = j) ∧ Hid (wr.ownsRow (w.heap.size + 1) 22 1 (.slice a5 j c5) j xs) ∧ Hid (Bands wr (w.heap.size + 1) wr.heap.size xs acc) ∧ Hid (Rd wr w.heap.size b off3 (240 - p) c3 (BB.drop p)) ∧ Hid (Reads wr (some ⟨b, off1, none⟩) n ((BB.drop 1).take n)) ∧ Hid (Below w.heap.size w wr) ∧ Hid (w.heap.size + 1 ≤ wr.heap.size)) (fun _ i _ => n - (intOf i).toNat)
  case atStart => exact ⟨0, 1 + n, [], none, 0, [], off2, c2, Nat.zero_le _, rfl, rfl, by omega, hid (by simp only [cutA, HN.out]), hid rfl, hid (World.ownsRow_nil _ _ _ _), hid (Bands.nil _ _ _), hid (by have := HR2.out; rw [show 240 - (1 + n) = 240 - 1 - n by omega]; exact this), RL, HB2, Z2⟩
  case round =>
    clear RL HB2 Z2 HR2
    obtain ⟨j, p, acc, a5, c5, xs, off3, c3, hj, rfl, rfl, hp, HC, HA, HO, HBS, HR, RL, HB, HZ⟩ := hrel
    by_cases hlt : j < n
    · have hlt' : (j : Int) < (n : Int) := by omega
      have hj0 : (0 : Int) ≤ (j : Int) := by omega
      obtain ⟨k, hk⟩ : ∃ k, lenB BB (1 + j) = k := ⟨_, rfl⟩
      have hk255 : k ≤ 255 := by rw [← hk]; exact (lenB_cast HBD.out _).2
      have HK := hid hk
      have hcx : wr.cell? ⟨b, off1 + j, none⟩ = some (.int .u8 (k : Int)) := by
        rcases RL.out.cells with h0 | ⟨b', o', e, hcc⟩
        · omega
        · cases e
          rw [hcc j hlt, ← hk, ← (lenB_cast HBD.out (1 + j)).1]
          congr 2
          simp [List.getD, hlt, Nat.add_comm]
      have hw := wrapn7 k hk255
      clear hk
      go_wp2_with fail
      clear hcx hw
      by_cases hpk : ¬ p + k ≤ 240
      · refine (take_no k HR.out.row (by omega) (by omega)).mono ?_
        rintro e w3 ⟨rfl, e3⟩
        subst w3
        go_wp2_with fail
        exact ⟨rfl, .inl ⟨slotsZ_no2 (j := j + 1) (by rw [HN.out]; omega) (cutA_stop HC.out (by rw [HK.out, HL.out]; exact hpk)), _, rfl⟩, HB.out⟩
      replace hpk := Decidable.not_not.1 hpk
      have HC2 := hid (cutA_some HC.out (by rw [HK.out, HL.out]; exact hpk))
      refine (take_yes HR.out k (by omega)).mono ?_
      rintro e w3 ⟨rfl, hg3, off4, c4, hR4⟩
      rw [List.drop_drop] at hR4
      have RT := hid (reads_front (HR.out.reads.other hg3 (fun a e => by cases e; exact fun e => HR.out.ne (Option.some.inj e))) (show k ≤ 240 - p by omega))
      replace RL := hid (RL.out.other hg3 (fun a e => by cases e; exact fun e => HR.out.ne (Option.some.inj e)))
      replace HB := hid (HB.out.grown hg3 HB.out.size (fun k hk => by cases hk; exact Nat.le_refl _))
      replace HO := hid (HO.out.kept hg3 (oty_ne HO.out HR.out.row (by decide)))
      replace HBS := hid ((HBS.out.beside hg3 (fun i => oty_ne (HBS.out.own i) HR.out.row (by decide))).mono (Nat.le_refl _) hg3.size)
      replace HZ := hid (Nat.le_trans HZ.out hg3.size)
      have HR4 := hid hR4
      have HCAP := hid HR.out.top
      clear hg3 hR4 HR
      go_wp2_with fail
      have bX := Below.alloc1 w3 (.cells #[.slice (some ⟨b, off3, none⟩) k c3] 22)
      have hkl : ((BB.drop p).take k).length = k := RT.out.len
      have RX := reads_one (heap_alloc_new w3 (.cells #[.slice (some ⟨b, off3, none⟩) k c3] 22)) (z := (BB.drop p).take k) ⟨_, c3, by rw [hkl], by rw [hkl]; exact RT.out.below bX (Nat.le_refl _), fun e => (by cases e), by rw [hkl]; unfold maxLen; omega⟩
      refine (impl_joined (m := 1) 1 RX rfl (by omega) (by show ((BB.drop p).take k).length + 0 ≤ 2097152; rw [hkl]; omega)).mono ?_
      rintro e w4 ⟨v4, rfl, o4, b4⟩
      have b5 := bX.trans (b4.mono bX.size)
      have o5 : w4.ownsRow w3.heap.size 5 1 v4 ((BB.drop p).take k).length (bys ((BB.drop p).take k)) := owns_lower (by simpa [tot] using o4) bX.size
      have HBDT := hid (RT.out.bd)
      have HKL := hid hkl
      rw [hkl] at o5
      obtain ⟨a4, c4', rfl⟩ := own_sl o5
      have O5 := hid o5
      have B5 := hid b5
      replace RL := hid (RL.out.below b5 (Nat.le_refl _))
      replace HR4 := hid (HR4.out.below b5 (Nat.le_refl _))
      replace HB := hid (HB.out.trans (b5.mono HB.out.size))
      replace HO := hid (owns_below b5 (Nat.le_refl _) HO.out)
      clear bX RX o4 b4 b5 o5 RT hkl
      go_wp2_with (at_builtin; refine wpList_append_row rfl _ _ 24 rfl (w.heap.size + 1) 22 i0 (.slice none 0 0) 1 24 Try.underlying24 hi hz0 hz1 hz2 rfl (by decide) _ j xs rfl (owns_below (Below.alloc1 w4 _) (Nat.le_refl _) HO.out) (some ⟨w4.heap.size, 0, none⟩) 1 1 [.slice a4 k c4'] rfl rfl (.inr ⟨_, rfl, World.news_of_block (heap_alloc_new w4 _)⟩) (fun e => by cases e) (by simp [Value.oneCell']) ?k4 ?k5 ?k6 ?_)
      case k4 => unfold maxLen; omega
      case k5 => omega
      case k6 => have := HZ.out; have := B5.out.size; simp; omega
      intro a6 c6 w6 o6 g6
      have bY := Below.alloc1 w4 (.cells #[.slice a4 k c4'] 22)
      have hB7 := HBS.out.grow (X := w4.alloc (.cells #[.slice a4 k c4'] 22)) HZ.out (B5.out.trans (bY.mono B5.out.size)) (z := (BB.drop p).take k) (by rw [HKL.out]; exact O5.out.alloc _) HBDT.out (owns_below bY (Nat.le_refl _) HO.out) (by decide) g6
      have RY := HR4.out.below bY (Nat.le_refl _)
      have R7 := hid (show Rd w6 w.heap.size b off4 (240 - p - k) c4 (BB.drop (p + k)) from ⟨(g6.block _ RY.lt (own_nk (owns_below bY (Nat.le_refl _) HO.out) RY.row (by decide))).trans RY.row, RY.reads.other g6 (fun a e => by cases e; exact fun e => by have := (HO.out.lt b e.symm).1; omega), RY.cap, RY.top, RY.ne⟩)
      have RL7 := hid ((RL.out.below bY (Nat.le_refl _)).other g6 (fun a e => by cases e; exact fun e => by have := (HO.out.lt b e.symm).1; omega))
      have HB7 := hid ((HB.out.trans (bY.mono HB.out.size)).grown g6 (Nat.le_trans HB.out.size bY.size) (fun q hq => by have := (HO.out.lt q hq).1; omega))
      have HZ7 := hid (show w.heap.size + 1 ≤ w6.heap.size by have := HZ.out; have := B5.out.size; have := bY.size; have := g6.size; omega)
      have HBS7 := hid hB7
      have HO7 := hid o6
      clear bY hB7 RY o6 g6 HO HBS RL HB HZ HR4 O5 B5
      go_wp2_with fail
      go_roundw
      case rel => exact ⟨j + 1, p + k, acc ++ [(BB.drop p).take k], a6, c6, xs ++ [.slice a4 k c4'], off4, c4, by omega, by go_num, rfl, hpk, hid (by rw [HC2.out, HK.out]), hid (by simp [HA.out]), HO7, HBS7, hid (by rw [show 240 - (p + k) = 240 - p - k by omega]; exact R7.out), RL7, HB7, HZ7⟩
      case measure => simp [intOf]; omega
    · have hlt' : ¬ (j : Int) < (n : Int) := by omega
      obtain rfl : n = j := by omega
      go_wp2_with fail
      go_ret
      refine ⟨.inr ⟨acc, a5, c5, ?_, by rw [HA.out]; rfl, ?_⟩, HB.out⟩
      · have hcc := HC.out
        rw [← HN.out] at hcc
        exact slotsZ_yes (by rw [HN.out, HL.out]; omega) hcc
      · rw [HA.out]
        exact (show OwnP wr (w.heap.size + 1) wr.heap.size (.slice a5 n c5) acc from ⟨⟨xs, by rw [HA.out]; exact HO.out, HBS.out⟩, fun q hq => (HO.out.lt q hq).2⟩).mono (by omega) (Nat.le_refl _)
end Go.Proofs.Ytioefplkadpfnaa
/- A region that draws its order within a round; the contract of the library's slices.Chunk over a body of 240 bytes. Conditions: pieces of 60 bytes. -/














namespace Go.Proofs.Ytioefplkadpfnaa
open Go.RowKit Go.Shelf
attribute [local go_sem] Oper.semAt_some

section
variable {P : Program} {ops : Array Oper} {Q : Exit → Act → World → Prop} {md : Region.Mode}
def noDefer (o : Oper) : Bool := match o.op with | .defer _ => false | _ => true
theorem noDefer_of {o : Oper} (h : noDefer o = true) : ∀ c, o.op ≠ .defer c := by
  intro c e
  unfold noDefer at h
  rw [e] at h
  cases h
theorem opIn_of_op {o : Oper} {l n : Nat} {a : Act} {w : World} {K : Act → World → Prop} (hd : noDefer o = true) (h : o.wp P a w K Q) : o.wpIn (Fence.wide.inRound l) n P a w K Q := by
  refine ⟨fun f _ => trivial, ?_⟩
  rw [Oper.semAt_eq _ _ _ (noDefer_of hd)]
  unfold Oper.wp at h
  generalize (execOp a.eval o).run P w = r at h ⊢
  cases r with
  | ok x w' =>
    cases x with
    | enter f args => exact ⟨(fun e => (by cases e)), (callsIn_wide (n := n - 1)).2 h⟩
    | row row args => exact ⟨(fun e => (by cases e)), fun c cs _ => let ⟨v, w', r, s⟩ := h c cs; ⟨v, w', r, stepsIn_wide.2 s⟩⟩
    | round l f t x y => exact False.elim h
    | _ => exact h
  | halt x w' => cases x <;> exact h
theorem anyIn_of_any {l n : Nat} (hd : ops.all noDefer = true) (hno : ¬ LetsOut Q) : ∀ (fuel : Nat) (listed : Array Bool) (a : Act) (w : World), wpAny P md ops Q fuel listed a w → wpAnyIn (Fence.wide.inRound l) n P md ops Q fuel listed a w
  | 0, _, _, _, h => h
  | fuel + 1, listed, a, w, h => by
    refine ⟨h.1, fun i hi => ?_⟩
    have h2 := h.2 i hi
    unfold wpOp at h2
    unfold wpOpIn
    cases ho : ops[i]? with
    | none => rw [ho] at h2; exact anyIn_of_any hd hno fuel _ _ _ h2
    | some o =>
      rw [ho] at h2
      simp only at h2 ⊢
      have hdo : noDefer o = true := by
        have hlt := (Array.getElem?_eq_some_iff.1 ho)
        obtain ⟨hl, he⟩ := hlt
        rw [← he]
        exact Array.all_eq_true.1 hd i hl
      split
      · rename_i hw
        rw [if_pos hw] at h2
        rcases h2 with h2 | h2
        · exact Oper.wpIn_mono (fun a w k => anyIn_of_any hd hno fuel _ a w k) (opIn_of_op hdo h2)
        · exact absurd h2.2 hno
      · rename_i hw
        rw [if_neg hw] at h2
        exact ⟨fun f _ => trivial, anyIn_of_any hd hno fuel _ _ _ h2⟩
theorem region_KR {id l n : Nat} {a : Act} {w : World} (L : Nat) (S : World → Prop) (hm : P.follows .mixedOrders = true) (hd : ops.all noDefer = true) (hno : ¬ LetsOut Q) (hS : S w.drew)
    (h : S w.drew → anyK P .any ops Q S L ops.size (Array.replicate ops.size false) a w.drew) : (Code.region id ops true).wpIn (Fence.wide.inRound l) n P Q a w :=
  wpIn_region_any hm (anyIn_of_any hd hno _ _ _ _ (anyK_any _ _ _ _ (h hS)))
end

def up (k : Nat) : List Nat := List.range k
theorem up_len (k : Nat) : (up k).length = k := by simp [up]
theorem up_succ (k : Nat) : up (k + 1) = up k ++ [k] := by simp [up, List.range_succ]
def enC (gb : Nat) (i : Nat) : Array Value := #[.slice (some ⟨gb, 60 * min i 3, none⟩) 60 60]

set_option maxRecDepth 100000 in
set_option maxHeartbeats 2000000 in
theorem chunk1 (n : Nat) (hn : 1 ≤ n) (l Bs Bn : Nat) (gb c : Nat) (hc240 : 240 ≤ c) (Kp : World → World → Prop) (hKr : ∀ W, Kp W W) (hKt : ∀ {A B C : World}, Kp A B → Kp B C → Kp A C) (hKd : ∀ W, Kp W W.drew) (hKc : ∀ {A B : World} {v : Value}, Kp A B → A.cell? ⟨Bs, 0, none⟩ = some v → B.cell? ⟨Bs, 0, none⟩ = some v) (hKn : ∀ {A B : World} {v : Value}, Kp A B → A.cell? ⟨Bn, 0, none⟩ = some v → B.cell? ⟨Bn, 0, none⟩ = some v) (J Jx : List Nat → World → Prop) (hJd : ∀ pre W, J pre W → J pre W.drew)
    (hY : ∀ pre x W, J pre W → pre.length < 4 → YieldAt Fence.wide (n - 1) Try.prog l (enC gb x) W fun e W' =>
      (e = .returned (.bool true) ∧ J (pre ++ [x]) W' ∧ Kp W W') ∨ (e = .returned (.bool false) ∧ Jx (pre ++ [x]) W'))
    (W : World) (hBs : W.cell? ⟨Bs, 0, none⟩ = some (.slice (some ⟨gb, 0, none⟩) 240 c)) (hBn : W.cell? ⟨Bn, 0, none⟩ = some (.int .i64 60)) (h0 : J [] W) :
    CallsIn Fence.wide n Try.prog 87 #[.func (.yield l) #[] #[], .pointer (some ⟨Bs, 0, none⟩), .pointer (some ⟨Bn, 0, none⟩)] W fun e W' => (∃ v, e = .returned v) ∧
      ((∃ ys, ys = up 4 ∧ J ys W') ∨ (∃ pre, (∃ k, k ≤ 4 ∧ pre = up k) ∧ Jx pre W')) := by
  refine callsIn_of_wp Try.func87 rfl trivial ?_ rfl
  simp only [Try.ntmps87, List.size_toArray, List.length_cons, List.length_nil, Nat.reduceAdd, Nat.reduceSub, Array.replicate_succ, Array.replicate_zero, List.push_toArray, List.append_toArray, List.nil_append, List.cons_append]
  gi_wp2
  gi_loopw [4] (fun i wr => ∃ k : Nat, k ≤ 4 ∧ i = .int .i64 ((60 * k : Nat) : Int) ∧ J (up k) wr ∧ Kp W wr) (fun i _ => (240 - intOf i).toNat)
  case atStart => exact ⟨0, Nat.zero_le _, rfl, h0, hKr _⟩
  case round =>
    obtain ⟨k, hk, rfl, hJs, hnx⟩ := hrel
    have hbs := hKc hnx hBs
    have hbn := hKn hnx hBn
    by_cases hlt : k < 4
    · have n1 : ¬ c = 60 := by omega
      have n2 : ¬ c = 120 := by omega
      have n3 : ¬ c = 180 := by omega
      obtain rfl | rfl | rfl | rfl : k = 0 ∨ k = 1 ∨ k = 2 ∨ k = 3 := by omega
      · rw [show ((60 * 0 : Nat) : Int) = 0 from rfl]
        obtain ⟨fn, tmps, assign, body, hy, hR⟩ := hY _ 0 wr.drew (hJd _ _ hJs) (by simp [up_len])
        have hy' := hy
        simp only [enC, Nat.reduceMul, show min 0 3 = 0 from rfl] at hy'
        clear hy
        gi_wp2
        refine wpIn_wide.2 ?_
        refine region_K 99 (fun W => W.cell? ⟨Bs, 0, none⟩ = some (.slice (some ⟨gb, 0, none⟩) 240 c) ∧ W.cell? ⟨Bn, 0, none⟩ = some (.int .i64 60)) (by kernel_rfl) ?_ (fun hHeld => ?_)
        · exact ⟨hbs, hbn⟩
        refine anyK_take2 (i := 0) (v := ?v1) rfl (by kernel_rfl) (by kernel_rfl) (by kernel_rfl) (by rfl) (fun _ _ _ h => h) (by rfl) hHeld ?hy1 (some 13) (by rfl) ?rest1
        case hy1 => (intro W hSw; obtain ⟨r0, r1⟩ := hSw; go_simp; (try with_reducible rfl))
        try simp only [Act.put]
        try simp only [List.setIfInBounds_toArray]
        try simp only [List.set_cons_succ, List.set_cons_zero]
        refine anyK_take2 (i := 1) (v := ?v2) rfl (by kernel_rfl) (by kernel_rfl) (by kernel_rfl) (by rfl) (fun _ _ _ h => h) (by rfl) hHeld ?hy2 (some 14) (by rfl) ?rest2
        case hy2 => (intro W hSw; obtain ⟨r0, r1⟩ := hSw; go_simp; (try with_reducible rfl))
        try simp only [Act.put]
        try simp only [List.setIfInBounds_toArray]
        try simp only [List.set_cons_succ, List.set_cons_zero]
        refine anyK_take2 (i := 2) (v := ?v3) rfl (by kernel_rfl) (by kernel_rfl) (by kernel_rfl) (by rfl) (fun _ _ _ h => h) (by rfl) hHeld ?hy3 (some 15) (by rfl) ?rest3
        case hy3 => (intro W hSw; obtain ⟨r0, r1⟩ := hSw; go_simp; (try with_reducible rfl))
        try simp only [Act.put]
        try simp only [List.setIfInBounds_toArray]
        try simp only [List.set_cons_succ, List.set_cons_zero]
        refine anyK_take2 (i := 3) (v := ?v4) rfl (by kernel_rfl) (by kernel_rfl) (by kernel_rfl) (by rfl) (fun _ _ _ h => h) (by rfl) hHeld ?hy4 (some 16) (by rfl) ?rest4
        case hy4 => (intro W hSw; obtain ⟨r0, r1⟩ := hSw; go_simp; (try with_reducible rfl))
        try simp only [Act.put]
        try simp only [List.setIfInBounds_toArray]
        try simp only [List.set_cons_succ, List.set_cons_zero]
        refine anyK_take2 (i := 4) (v := ?v5) rfl (by kernel_rfl) (by kernel_rfl) (by kernel_rfl) (by rfl) (fun _ _ _ h => h) (by rfl) hHeld ?hy5 (some 17) (by rfl) ?rest5
        case hy5 => (intro W hSw; obtain ⟨r0, r1⟩ := hSw; go_simp; (try with_reducible rfl))
        try simp only [Act.put]
        try simp only [List.setIfInBounds_toArray]
        try simp only [List.set_cons_succ, List.set_cons_zero]
        refine anyK_step (i := 5) (by kernel_rfl) rfl (fun KP hK => ?_)
        go_simp
        refine hK.out _ _ ?_ (fun hH2 => ?_)
        · exact ⟨hbs, hbn⟩
        clear hK KP hHeld
        have hHeld := hH2
        clear hH2
        try simp only [Act.put]
        try simp only [List.setIfInBounds_toArray]
        try simp only [List.set_cons_succ, List.set_cons_zero]
        refine anyK_step (i := 6) (by kernel_rfl) rfl (fun KP hK => ?_)
        go_simp
        refine hK.out _ _ ?_ (fun hH2 => ?_)
        · exact ⟨hbs, hbn⟩
        clear hK KP hHeld
        have hHeld := hH2
        clear hH2
        try simp only [Act.put]
        try simp only [List.setIfInBounds_toArray]
        try simp only [List.set_cons_succ, List.set_cons_zero]
        refine anyK_done (by kernel_rfl) ?_ _
        clear hHeld
        gi_wp2
        refine hR.mono ?_
        rintro e W3 (⟨rfl, hJ3, hk3⟩ | ⟨rfl, hJx3⟩)
        · have b3 := hKt (hKt hnx (hKd _)) hk3
          have hbn3 := hKn b3 hBn
          rw [← up_succ] at hJ3
          clear hR hy'
          gi_wp2
          go_roundw
          case rel => exact ⟨1, by omega, by rfl, hJ3, b3⟩
          case measure => simp [intOf]
        · gi_wp2
          refine bodyPost_ret (results_none rfl _ _ _) rfl ?_
          exact ⟨⟨_, rfl⟩, .inr ⟨_, ⟨1, by omega, (up_succ 0).symm⟩, hJx3⟩⟩
      · rw [show ((60 * 1 : Nat) : Int) = 60 from rfl]
        obtain ⟨fn, tmps, assign, body, hy, hR⟩ := hY _ 1 wr.drew (hJd _ _ hJs) (by simp [up_len])
        have hy' := hy
        simp only [enC, Nat.reduceMul, show min 1 3 = 1 from rfl] at hy'
        clear hy
        gi_wp2
        refine wpIn_wide.2 ?_
        refine region_K 99 (fun W => W.cell? ⟨Bs, 0, none⟩ = some (.slice (some ⟨gb, 0, none⟩) 240 c) ∧ W.cell? ⟨Bn, 0, none⟩ = some (.int .i64 60)) (by kernel_rfl) ?_ (fun hHeld => ?_)
        · exact ⟨hbs, hbn⟩
        refine anyK_take2 (i := 0) (v := ?v6) rfl (by kernel_rfl) (by kernel_rfl) (by kernel_rfl) (by rfl) (fun _ _ _ h => h) (by rfl) hHeld ?hy6 (some 13) (by rfl) ?rest6
        case hy6 => (intro W hSw; obtain ⟨r0, r1⟩ := hSw; go_simp; (try with_reducible rfl))
        try simp only [Act.put]
        try simp only [List.setIfInBounds_toArray]
        try simp only [List.set_cons_succ, List.set_cons_zero]
        refine anyK_take2 (i := 1) (v := ?v7) rfl (by kernel_rfl) (by kernel_rfl) (by kernel_rfl) (by rfl) (fun _ _ _ h => h) (by rfl) hHeld ?hy7 (some 14) (by rfl) ?rest7
        case hy7 => (intro W hSw; obtain ⟨r0, r1⟩ := hSw; go_simp; (try with_reducible rfl))
        try simp only [Act.put]
        try simp only [List.setIfInBounds_toArray]
        try simp only [List.set_cons_succ, List.set_cons_zero]
        refine anyK_take2 (i := 2) (v := ?v8) rfl (by kernel_rfl) (by kernel_rfl) (by kernel_rfl) (by rfl) (fun _ _ _ h => h) (by rfl) hHeld ?hy8 (some 15) (by rfl) ?rest8
        case hy8 => (intro W hSw; obtain ⟨r0, r1⟩ := hSw; go_simp; (try with_reducible rfl))
        try simp only [Act.put]
        try simp only [List.setIfInBounds_toArray]
        try simp only [List.set_cons_succ, List.set_cons_zero]
        refine anyK_take2 (i := 3) (v := ?v9) rfl (by kernel_rfl) (by kernel_rfl) (by kernel_rfl) (by rfl) (fun _ _ _ h => h) (by rfl) hHeld ?hy9 (some 16) (by rfl) ?rest9
        case hy9 => (intro W hSw; obtain ⟨r0, r1⟩ := hSw; go_simp; (try with_reducible rfl))
        try simp only [Act.put]
        try simp only [List.setIfInBounds_toArray]
        try simp only [List.set_cons_succ, List.set_cons_zero]
        refine anyK_take2 (i := 4) (v := ?v10) rfl (by kernel_rfl) (by kernel_rfl) (by kernel_rfl) (by rfl) (fun _ _ _ h => h) (by rfl) hHeld ?hy10 (some 17) (by rfl) ?rest10
        case hy10 => (intro W hSw; obtain ⟨r0, r1⟩ := hSw; go_simp; (try with_reducible rfl))
        try simp only [Act.put]
        try simp only [List.setIfInBounds_toArray]
        try simp only [List.set_cons_succ, List.set_cons_zero]
        refine anyK_step (i := 5) (by kernel_rfl) rfl (fun KP hK => ?_)
        go_simp
        refine hK.out _ _ ?_ (fun hH2 => ?_)
        · exact ⟨hbs, hbn⟩
        clear hK KP hHeld
        have hHeld := hH2
        clear hH2
        try simp only [Act.put]
        try simp only [List.setIfInBounds_toArray]
        try simp only [List.set_cons_succ, List.set_cons_zero]
        refine anyK_step (i := 6) (by kernel_rfl) rfl (fun KP hK => ?_)
        go_simp
        refine hK.out _ _ ?_ (fun hH2 => ?_)
        · exact ⟨hbs, hbn⟩
        clear hK KP hHeld
        have hHeld := hH2
        clear hH2
        try simp only [Act.put]
        try simp only [List.setIfInBounds_toArray]
        try simp only [List.set_cons_succ, List.set_cons_zero]
        refine anyK_done (by kernel_rfl) ?_ _
        clear hHeld
        gi_wp2
        refine hR.mono ?_
        rintro e W3 (⟨rfl, hJ3, hk3⟩ | ⟨rfl, hJx3⟩)
        · have b3 := hKt (hKt hnx (hKd _)) hk3
          have hbn3 := hKn b3 hBn
          rw [← up_succ] at hJ3
          clear hR hy'
          gi_wp2
          go_roundw
          case rel => exact ⟨2, by omega, by rfl, hJ3, b3⟩
          case measure => simp [intOf]
        · gi_wp2
          refine bodyPost_ret (results_none rfl _ _ _) rfl ?_
          exact ⟨⟨_, rfl⟩, .inr ⟨_, ⟨2, by omega, (up_succ 1).symm⟩, hJx3⟩⟩
      · rw [show ((60 * 2 : Nat) : Int) = 120 from rfl]
        obtain ⟨fn, tmps, assign, body, hy, hR⟩ := hY _ 2 wr.drew (hJd _ _ hJs) (by simp [up_len])
        have hy' := hy
        simp only [enC, Nat.reduceMul, show min 2 3 = 2 from rfl] at hy'
        clear hy
        gi_wp2
        refine wpIn_wide.2 ?_
        refine region_K 99 (fun W => W.cell? ⟨Bs, 0, none⟩ = some (.slice (some ⟨gb, 0, none⟩) 240 c) ∧ W.cell? ⟨Bn, 0, none⟩ = some (.int .i64 60)) (by kernel_rfl) ?_ (fun hHeld => ?_)
        · exact ⟨hbs, hbn⟩
        refine anyK_take2 (i := 0) (v := ?v11) rfl (by kernel_rfl) (by kernel_rfl) (by kernel_rfl) (by rfl) (fun _ _ _ h => h) (by rfl) hHeld ?hy11 (some 13) (by rfl) ?rest11
        case hy11 => (intro W hSw; obtain ⟨r0, r1⟩ := hSw; go_simp; (try with_reducible rfl))
        try simp only [Act.put]
        try simp only [List.setIfInBounds_toArray]
        try simp only [List.set_cons_succ, List.set_cons_zero]
        refine anyK_take2 (i := 1) (v := ?v12) rfl (by kernel_rfl) (by kernel_rfl) (by kernel_rfl) (by rfl) (fun _ _ _ h => h) (by rfl) hHeld ?hy12 (some 14) (by rfl) ?rest12
        case hy12 => (intro W hSw; obtain ⟨r0, r1⟩ := hSw; go_simp; (try with_reducible rfl))
        try simp only [Act.put]
        try simp only [List.setIfInBounds_toArray]
        try simp only [List.set_cons_succ, List.set_cons_zero]
        refine anyK_take2 (i := 2) (v := ?v13) rfl (by kernel_rfl) (by kernel_rfl) (by kernel_rfl) (by rfl) (fun _ _ _ h => h) (by rfl) hHeld ?hy13 (some 15) (by rfl) ?rest13
        case hy13 => (intro W hSw; obtain ⟨r0, r1⟩ := hSw; go_simp; (try with_reducible rfl))
        try simp only [Act.put]
        try simp only [List.setIfInBounds_toArray]
        try simp only [List.set_cons_succ, List.set_cons_zero]
        refine anyK_take2 (i := 3) (v := ?v14) rfl (by kernel_rfl) (by kernel_rfl) (by kernel_rfl) (by rfl) (fun _ _ _ h => h) (by rfl) hHeld ?hy14 (some 16) (by rfl) ?rest14
        case hy14 => (intro W hSw; obtain ⟨r0, r1⟩ := hSw; go_simp; (try with_reducible rfl))
        try simp only [Act.put]
        try simp only [List.setIfInBounds_toArray]
        try simp only [List.set_cons_succ, List.set_cons_zero]
        refine anyK_take2 (i := 4) (v := ?v15) rfl (by kernel_rfl) (by kernel_rfl) (by kernel_rfl) (by rfl) (fun _ _ _ h => h) (by rfl) hHeld ?hy15 (some 17) (by rfl) ?rest15
        case hy15 => (intro W hSw; obtain ⟨r0, r1⟩ := hSw; go_simp; (try with_reducible rfl))
        try simp only [Act.put]
        try simp only [List.setIfInBounds_toArray]
        try simp only [List.set_cons_succ, List.set_cons_zero]
        refine anyK_step (i := 5) (by kernel_rfl) rfl (fun KP hK => ?_)
        go_simp
        refine hK.out _ _ ?_ (fun hH2 => ?_)
        · exact ⟨hbs, hbn⟩
        clear hK KP hHeld
        have hHeld := hH2
        clear hH2
        try simp only [Act.put]
        try simp only [List.setIfInBounds_toArray]
        try simp only [List.set_cons_succ, List.set_cons_zero]
        refine anyK_step (i := 6) (by kernel_rfl) rfl (fun KP hK => ?_)
        go_simp
        refine hK.out _ _ ?_ (fun hH2 => ?_)
        · exact ⟨hbs, hbn⟩
        clear hK KP hHeld
        have hHeld := hH2
        clear hH2
        try simp only [Act.put]
        try simp only [List.setIfInBounds_toArray]
        try simp only [List.set_cons_succ, List.set_cons_zero]
        refine anyK_done (by kernel_rfl) ?_ _
        clear hHeld
        gi_wp2
        refine hR.mono ?_
        rintro e W3 (⟨rfl, hJ3, hk3⟩ | ⟨rfl, hJx3⟩)
        · have b3 := hKt (hKt hnx (hKd _)) hk3
          have hbn3 := hKn b3 hBn
          rw [← up_succ] at hJ3
          clear hR hy'
          gi_wp2
          go_roundw
          case rel => exact ⟨3, by omega, by rfl, hJ3, b3⟩
          case measure => simp [intOf]
        · gi_wp2
          refine bodyPost_ret (results_none rfl _ _ _) rfl ?_
          exact ⟨⟨_, rfl⟩, .inr ⟨_, ⟨3, by omega, (up_succ 2).symm⟩, hJx3⟩⟩
      · rw [show ((60 * 3 : Nat) : Int) = 180 from rfl]
        obtain ⟨fn, tmps, assign, body, hy, hR⟩ := hY _ 3 wr.drew (hJd _ _ hJs) (by simp [up_len])
        have hy' := hy
        simp only [enC, Nat.reduceMul, show min 3 3 = 3 from rfl] at hy'
        clear hy
        gi_wp2
        refine wpIn_wide.2 ?_
        refine region_K 99 (fun W => W.cell? ⟨Bs, 0, none⟩ = some (.slice (some ⟨gb, 0, none⟩) 240 c) ∧ W.cell? ⟨Bn, 0, none⟩ = some (.int .i64 60)) (by kernel_rfl) ?_ (fun hHeld => ?_)
        · exact ⟨hbs, hbn⟩
        refine anyK_take2 (i := 0) (v := ?v16) rfl (by kernel_rfl) (by kernel_rfl) (by kernel_rfl) (by rfl) (fun _ _ _ h => h) (by rfl) hHeld ?hy16 (some 13) (by rfl) ?rest16
        case hy16 => (intro W hSw; obtain ⟨r0, r1⟩ := hSw; go_simp; (try with_reducible rfl))
        try simp only [Act.put]
        try simp only [List.setIfInBounds_toArray]
        try simp only [List.set_cons_succ, List.set_cons_zero]
        refine anyK_take2 (i := 1) (v := ?v17) rfl (by kernel_rfl) (by kernel_rfl) (by kernel_rfl) (by rfl) (fun _ _ _ h => h) (by rfl) hHeld ?hy17 (some 14) (by rfl) ?rest17
        case hy17 => (intro W hSw; obtain ⟨r0, r1⟩ := hSw; go_simp; (try with_reducible rfl))
        try simp only [Act.put]
        try simp only [List.setIfInBounds_toArray]
        try simp only [List.set_cons_succ, List.set_cons_zero]
        refine anyK_take2 (i := 2) (v := ?v18) rfl (by kernel_rfl) (by kernel_rfl) (by kernel_rfl) (by rfl) (fun _ _ _ h => h) (by rfl) hHeld ?hy18 (some 15) (by rfl) ?rest18
        case hy18 => (intro W hSw; obtain ⟨r0, r1⟩ := hSw; go_simp; (try with_reducible rfl))
        try simp only [Act.put]
        try simp only [List.setIfInBounds_toArray]
        try simp only [List.set_cons_succ, List.set_cons_zero]
        refine anyK_take2 (i := 3) (v := ?v19) rfl (by kernel_rfl) (by kernel_rfl) (by kernel_rfl) (by rfl) (fun _ _ _ h => h) (by rfl) hHeld ?hy19 (some 16) (by rfl) ?rest19
        case hy19 => (intro W hSw; obtain ⟨r0, r1⟩ := hSw; go_simp; (try with_reducible rfl))
        try simp only [Act.put]
        try simp only [List.setIfInBounds_toArray]
        try simp only [List.set_cons_succ, List.set_cons_zero]
        refine anyK_take2 (i := 4) (v := ?v20) rfl (by kernel_rfl) (by kernel_rfl) (by kernel_rfl) (by rfl) (fun _ _ _ h => h) (by rfl) hHeld ?hy20 (some 17) (by rfl) ?rest20
        case hy20 => (intro W hSw; obtain ⟨r0, r1⟩ := hSw; go_simp; (try with_reducible rfl))
        try simp only [Act.put]
        try simp only [List.setIfInBounds_toArray]
        try simp only [List.set_cons_succ, List.set_cons_zero]
        refine anyK_step (i := 5) (by kernel_rfl) rfl (fun KP hK => ?_)
        go_simp
        refine hK.out _ _ ?_ (fun hH2 => ?_)
        · exact ⟨hbs, hbn⟩
        clear hK KP hHeld
        have hHeld := hH2
        clear hH2
        try simp only [Act.put]
        try simp only [List.setIfInBounds_toArray]
        try simp only [List.set_cons_succ, List.set_cons_zero]
        refine anyK_step (i := 6) (by kernel_rfl) rfl (fun KP hK => ?_)
        go_simp
        refine hK.out _ _ ?_ (fun hH2 => ?_)
        · exact ⟨hbs, hbn⟩
        clear hK KP hHeld
        have hHeld := hH2
        clear hH2
        try simp only [Act.put]
        try simp only [List.setIfInBounds_toArray]
        try simp only [List.set_cons_succ, List.set_cons_zero]
        refine anyK_done (by kernel_rfl) ?_ _
        clear hHeld
        gi_wp2
        refine hR.mono ?_
        rintro e W3 (⟨rfl, hJ3, hk3⟩ | ⟨rfl, hJx3⟩)
        · have b3 := hKt (hKt hnx (hKd _)) hk3
          have hbn3 := hKn b3 hBn
          rw [← up_succ] at hJ3
          clear hR hy'
          gi_wp2
          go_roundw
          case rel => exact ⟨4, by omega, by rfl, hJ3, b3⟩
          case measure => simp [intOf]
        · gi_wp2
          refine bodyPost_ret (results_none rfl _ _ _) rfl ?_
          exact ⟨⟨_, rfl⟩, .inr ⟨_, ⟨4, by omega, (up_succ 3).symm⟩, hJx3⟩⟩
    · obtain rfl : k = 4 := by omega
      gi_wp2
      go_end0
      first | exact ⟨⟨_, rfl⟩, .inl hJs⟩ | exact ⟨⟨_, rfl⟩, .inl ⟨_, rfl, hJs⟩⟩

set_option maxHeartbeats 1000000 in
theorem chunk_in (n : Nat) (a : Option Addr) (len cap : Nat) (w : World) :
    CallsIn Fence.wide n Try.prog 63 #[.slice a len cap, .int .i64 60] w fun e w' => e = .returned (.func (.func 87) #[] #[.pointer (some ⟨w.heap.size, 0, none⟩), .pointer (some ⟨w.heap.size + 1, 0, none⟩)]) ∧ w' = (w.alloc (.cells #[.slice a len cap] 22)).alloc (.cells #[.int .i64 60] 3) := by
  refine callsIn_of_wp Try.func63 rfl trivial ?_ rfl
  simp only [Try.ntmps63, List.size_toArray, List.length_cons, List.length_nil, Nat.reduceAdd, Nat.reduceSub, Array.replicate_succ, Array.replicate_zero, List.push_toArray, List.append_toArray, List.nil_append, List.cons_append]
  gi_wp2
  go_ret
  exact ⟨rfl, rfl⟩

/-- All that stands ahead of n, but the block G, is as it was. -/
structure BX (n G : Nat) (W W' : World) : Prop where
  size : W.heap.size ≤ W'.heap.size
  block : ∀ k, k < n → k ≠ G → W'.heap[k]? = W.heap[k]?
theorem BX.refl (n G : Nat) (W : World) : BX n G W W := ⟨Nat.le_refl _, fun _ _ _ => rfl⟩
theorem BX.trans {n G : Nat} {A B C : World} (h : BX n G A B) (k : BX n G B C) : BX n G A C := ⟨Nat.le_trans h.size k.size, fun i hi hg => (k.block i hi hg).trans (h.block i hi hg)⟩
theorem BX.cell {n G g : Nat} {A B : World} {v : Value} (h : BX n G A B) (hg : g < n) (hne : g ≠ G) (hc : A.cell? ⟨g, 0, none⟩ = some v) : B.cell? ⟨g, 0, none⟩ = some v := (World.cell?_of_block (h.block g hg hne)).trans hc
theorem BX.below {n G : Nat} {A B : World} (b : Below n A B) : BX n G A B := ⟨b.size, fun k hk _ => b.block k hk⟩
theorem BX.setCell {n G : Nat} (W : World) (v : Value) : BX n G W (W.setCell ⟨G, 0, none⟩ v) := ⟨by rw [set_size]; exact Nat.le_refl _, fun k _ hk => heap_set_ne W G 0 k v hk⟩
theorem BX.putObj {n G : Nat} {w : World} (hn : n ≤ w.heap.size) (W : World) (l : Nat) (o o' : Obj) (hl : w.heap.size ≤ l) (_ : W.heap[l]? = some o) (_ : o.isCells = false) (_ : o.isWalk = false) : BX n G W (W.putObj l o') :=
  ⟨(grownBy_putObj' W l o').size, fun k hk _ => World.putObj_heap_other (fun e => by omega)⟩

theorem chunk_stops (n : Nat) (hn : 1 ≤ n) (Bs Bn n₀ G gb c : Nat) (hc240 : 240 ≤ c) (w : World) (hBs : Bs < w.heap.size) (hBn : Bn < w.heap.size) (hBs0 : Bs < n₀) (hBn0 : Bn < n₀) (hBsG : Bs ≠ G) (hBnG : Bn ≠ G)
    (h1 : w.cell? ⟨Bs, 0, none⟩ = some (.slice (some ⟨gb, 0, none⟩) 240 c)) (h2 : w.cell? ⟨Bn, 0, none⟩ = some (.int .i64 60)) :
    SeqStopsK Fence.wide n Try.prog 87 #[.pointer (some ⟨Bs, 0, none⟩), .pointer (some ⟨Bn, 0, none⟩)] (enC gb) (BX n₀ G) (fun ys => ys = up 4) (fun pre => ∃ k, k ≤ 4 ∧ pre = up k) 4 w := fun l J Jx W hW hA _ hY h0 =>
  chunk1 n hn l Bs Bn gb c hc240 (BX n₀ G) (fun W => BX.refl _ _ W) (fun h k => h.trans k) (fun W => ⟨Nat.le_refl _, fun _ _ _ => rfl⟩) (fun h hc => h.cell hBs0 hBsG hc) (fun h hc => h.cell hBn0 hBnG hc) J Jx (fun pre W1 h => hA pre W1 _ none h ⟨rfl, rfl, rfl, Nat.le_refl _, fun _ _ _ => rfl⟩ (fun r e => by cases e)) hY W ((hW.cell (p := ⟨Bs, 0, none⟩) hBs).trans h1) ((hW.cell (p := ⟨Bn, 0, none⟩) hBn).trans h2) h0
end Go.Proofs.Ytioefplkadpfnaa
/- The contract of the program's PageBytes. Conditions: lists of at most 2^47. -/

namespace Go.Proofs.Ytioefplkadpfnaa
open Go.RowKit Go.Shelf
attribute [local go_sem] Oper.semAt_some

theorem KeepsOthers.below {W W' : World} (b : Below W.heap.size W W') : KeepsOthers W W' := ⟨b.size, fun k _ hk _ => (b.block k (Array.getElem?_eq_some_iff.1 hk).1).trans hk⟩
theorem own_keptK {W W' : World} {row : Option Nat} {base m : Nat} {e : TypeId} {s : Nat} {v : Value} {xs : List Value} (o : W.ownsRow base e s v m xs) (hg : W.grownBy W' row) (hr : ∀ r, row = some r → ∃ o : Obj, W.heap[r]? = some o ∧ o.isCells = false) : W'.ownsRow base e s v m xs := by
  refine o.kept hg ?_
  rcases o.2 with ⟨rfl, _⟩ | ⟨g, cap, cur, rfl, _, hgg, _⟩
  · exact .inl rfl
  · right
    intro e
    obtain ⟨ob, h1, h2⟩ := hr g e.symm
    rw [hgg] at h1
    cases h1
    cases h2
theorem reads_keptK {W W' : World} {row : Option Nat} {ad : Option Addr} {n : Nat} {zs : List Int} (h : Reads W ad n zs) (hg : W.grownBy W' row) (hr : ∀ r, row = some r → ∃ o : Obj, W.heap[r]? = some o ∧ o.isCells = false) : Reads W' ad n zs := by
  refine ⟨h.len, h.cells.imp id ?_, h.bd⟩
  rintro ⟨b, off, e, hc⟩
  exact ⟨b, off, e, fun i hi => cell_kept (hc i hi) hg hr⟩

/-- The sectors that have come. -/
def secsX (L : Int) (body : List Int) (xs : List Nat) : List Int := (xs.map fun x => putL L 4 ++ (body.drop (60 * min x 3)).take 60).flatten
theorem secsX_snoc (L : Int) (body : List Int) (xs : List Nat) (x : Nat) : secsX L body (xs ++ [x]) = secsX L body xs ++ (putL L 4 ++ (body.drop (60 * min x 3)).take 60) := by simp [secsX]
theorem secsX_mem {L : Int} {body : List Int} {xs : List Nat} (hb : bdZ body) {z : Int} (hz : z ∈ secsX L body xs) : 0 ≤ z ∧ z ≤ 255 := by
  unfold secsX at hz
  obtain ⟨y, hy, hzy⟩ := List.mem_flatten.1 hz
  obtain ⟨x, _, rfl⟩ := List.mem_map.1 hy
  exact ((show bdZ (putL L 4) from putL_bd L 4).app (hb.sub fun q hq => List.mem_of_mem_drop (List.mem_of_mem_take hq))).of z hzy
theorem secsX_up (L : Int) (body : List Int) : secsX L body (up 4) = secsP L body 4 := by
  simp [secsX, up, secsP, List.range_succ]

set_option maxRecDepth 100000 in
set_option maxHeartbeats 6400000 in
theorem impl_PageBytes (L : Int) {a : Option Addr} {n : Nat} (c : Nat) {ss : List (List Int)} {w : World} (h : ReadsS w a ss) (hl : ss.length = n) (hn : n ≤ 140737488355328) :
    Calls Try.prog 17 #[.agg #[.int .i64 L, .slice a n c]] w fun e w' => ∃ v, e = .returned v ∧ w'.ownsRow w.heap.size 5 1 v (bytesP L ss).length (bys (bytesP L ss)) ∧ Below w.heap.size w w' := by
  have HX := hid (ArgP.new L n c h 26 w.heap.size rfl)
  have HB := hid (Below.alloc1 w (.cells #[.int .i64 L, .slice a n c] 26))
  clear h
  refine (callsIn_wide (n := 9)).1 ?_
  refine callsIn_of_wp_marks Try.func17 rfl trivial ?_ rfl
  simp only [Try.ntmps17, List.size_toArray, List.length_cons, List.length_nil, Nat.reduceAdd, Nat.reduceSub, Array.replicate_succ, Array.replicate_zero, List.push_toArray, List.append_toArray, List.nil_append, List.cons_append]
  gi_wp2_with fail
  refine ⟨trivial, ((callsIn_wide (n := _)).2 (impl_isPage L c HX.out.reads hl hn)).mono ?_⟩
  rintro e w1 ⟨rfl, b⟩
  replace HX := hid (HX.out.below b (Nat.le_refl _))
  replace HB := hid (HB.out.trans (b.mono HB.out.size))
  clear b
  by_cases h1 : okP L ss = false
  · rw [h1]
    have HE := hid (bytesP_no h1)
    clear h1
    gi_wp2_with fail
    refine ⟨.slice none 0 0, ?_, ⟨_, rfl, by rw [HE.out]; exact World.ownsRow_nil _ _ _ _, HB.out⟩⟩
    simp [results, Try.f17, go_sem]
  rw [Bool.not_eq_false] at h1
  rw [h1]
  have HE := hid h1
  have HBY := hid (bytesP_yes h1)
  have HBL := hid (bodyP_len h1)
  have hL0 := (okP_of h1).l0
  have hL1 := (okP_of h1).l1
  have HP4 := hid (putL4 L hL0 hL1)
  have HBB := hid (bodyP_bd h1 HX.out.reads.bd)
  clear h1
  have LW1 := hid (show w.heap.size < w1.heap.size from HX.out.lt)
  have bA := Below.alloc1 w1 (.cells #[.slice none 0 0] 22)
  have HX1 := hid (HX.out.below bA (Nat.le_refl _))
  have RG := hid (heap_alloc_new w1 (.cells #[.slice none 0 0] 22))
  have ZG := hid (alloc_size w1 (.cells #[.slice none 0 0] 22))
  have HB1 := hid (HB.out.trans (bA.mono HB.out.size))
  obtain ⟨c0, c1⟩ := HX1.out.box
  clear HX HB bA
  gi_wp2_with fail
  clear c0 c1
  generalize w1.alloc (.cells #[.slice none 0 0] 22) = V at *
  refine ⟨trivial, ((callsIn_wide (n := _)).2 (impl_body L c HX1.out.reads hl HE.out)).mono ?_⟩
  rintro e w2 ⟨gb, cb, rfl, o, b⟩
  have HX2 := hid (HX1.out.below b (Nat.le_refl _))
  have RG2 := hid ((b.block w1.heap.size (by have := ZG.out; omega)).trans RG.out)
  have HB2 := hid (HB1.out.trans (b.mono HB1.out.size))
  have S2 := hid (show w1.heap.size + 1 ≤ gb ∧ gb < w2.heap.size from by have := o.lt gb rfl; have := ZG.out; omega)
  have hcb : 240 ≤ cb := by rcases o.2 with ⟨e, _⟩ | ⟨g', cap, cur, e, _, _, h1, _⟩; cases e; (obtain ⟨_, _, rfl⟩ := Value.slice.inj e; exact h1)
  have RB := hid (show Reads w2 (some ⟨gb, 0, none⟩) 240 (bodyP ss) by
    obtain ⟨x, y, e, r, _⟩ := Reads.own o HBB.out
    obtain ⟨rfl, _, _⟩ := Value.slice.inj e
    exact r)
  clear o b HX1 HB1 RG
  generalize bodyP ss = BB at *
  gi_wp2_with fail
  refine ⟨trivial, (chunk_in _ _ _ _ _).mono ?_⟩
  rintro e w3 ⟨rfl, e3⟩
  subst w3
  gi_wp2_with fail
  have bA := two w2 (.cells #[.slice (some ⟨gb, 0, none⟩) 240 cb] 22) (.cells #[.int .i64 60] 3)
  have HX3 := hid (HX2.out.below bA (Nat.le_refl _))
  have RG3 := hid ((bA.block w1.heap.size (by have := S2.out; omega)).trans RG2.out)
  have HB3 := hid (HB2.out.trans (bA.mono HB2.out.size))
  have RB3 := hid (RB.out.below bA (Nat.le_refl _))
  have bS := Boxed.new w2 22 (.slice (some ⟨gb, 0, none⟩) 240 cb)
  have bN := Boxed.new (w2.alloc (.cells #[.slice (some ⟨gb, 0, none⟩) 240 cb] 22)) 3 (.int .i64 60)
  simp only [World.size_alloc] at bN
  have ZZ : ((w2.alloc (.cells #[.slice (some ⟨gb, 0, none⟩) 240 cb] 22)).alloc (.cells #[.int .i64 60] 3)).heap.size = w2.heap.size + 2 := by simp
  clear HX2 RG2 HB2 RB bA
  refine wpIn_rangeFunc_ownH (F := Fence.wide) rfl (by omega) (gf := 87) (lb := #[.pointer (some ⟨w2.heap.size, 0, none⟩), .pointer (some ⟨w2.heap.size + 1, 0, none⟩)]) rfl trivial (enters_of Try.func87 (by kernel_rfl) rfl)
    (chunk_stops (9 - 1) (by omega) w2.heap.size (w2.heap.size + 1) (w2.heap.size + 2) w1.heap.size gb cb hcb ((w2.alloc (.cells #[.slice (some ⟨gb, 0, none⟩) 240 cb] 22)).alloc (.cells #[.int .i64 60] 3)) (by simp; omega) (by simp) (by omega) (by omega) (by have := S2.out; omega) (by have := S2.out; omega) (bS.alloc _).cell bN.cell) (fun h k => h.trans k) (BX.putObj (by rw [ZZ]; exact Nat.le_refl _)) (Below.refl _ _) (fun _ => rfl)
    (fun pre W => ((∃ a5 c5, W.cell? ⟨w1.heap.size, 0, none⟩ = some (.slice a5 (64 * pre.length) c5) ∧ W.frozen? ⟨w1.heap.size, 0, none⟩ = false ∧ W.ownsRow (w2.heap.size + 2) 5 1 (.slice a5 (64 * pre.length) c5) (64 * pre.length) (bys (secsX L BB pre))) ∧ BoxP W w.heap.size L a n c ∧ Reads W (some ⟨gb, 0, none⟩) 240 BB) ∧ Below w.heap.size w W)
    (fun _ _ _ => False)
    (OwnFrom.and (Own.from (fun s A B row hs hg hr => ⟨by obtain ⟨⟨a5, c5, h1, h2, h3⟩, _⟩ := hs; exact ⟨a5, c5, cell_kept h1 hg hr, (frozen_kept h1 hg hr).trans h2, own_keptK h3 hg hr⟩, ⟨cell_kept hs.2.1.c0 hg hr, cell_kept hs.2.1.c1 hg hr⟩, reads_keptK hs.2.2 hg hr⟩) _) (ownFrom_below (Nat.le_refl _) (by have := HB3.out.size; exact this)))
    (fun c s A B row hs => False.elim hs)
    ⟨⟨⟨none, 0, by rw [cell_of_row _ _ _ _ _ _ RG3.out]; rfl, frozen_of_row _ _ _ _ _ RG3.out, World.ownsRow_nil _ _ _ _⟩, HX3.out.box, RB3.out⟩, HB3.out⟩
    (fun x a' W => a' = { tmps := #[.agg #[.int .i64 L, .slice a n c], .pointer (some ⟨w.heap.size, 0, none⟩), .slice none 0 0, .pointer (some ⟨w1.heap.size, 0, none⟩), (.slice (some ⟨gb, 60 * min x 3, none⟩) 60 60), .agg #[.int .i64 L, .slice a n c], .bool true, .bool false, .agg #[.int .i64 L, .slice a n c], .slice (some ⟨gb, 0, none⟩) 240 cb, (.func (.func 87) #[] #[.pointer (some ⟨w2.heap.size, 0, none⟩), .pointer (some ⟨w2.heap.size + 1, 0, none⟩)]), (.slice (some ⟨gb, 60 * min x 3, none⟩) 60 60), undef, undef, undef, undef, undef, undef, undef, undef], defers := [] })
    (fun x a' => Own.from (fun s A B row hs hg hr => hs) _)
    ?assign ?body ?done ?stop
  case assign =>
    rintro l pre x W K hI hK
    unfold enC
    generalize 60 * min x 3 = y at *
    gi_wp2
    exact hK _ _ (KeepsFrom.refl _ _) (BX.refl _ _ _) hI rfl
  case body =>
    rintro l pre x a' W hl1 hlr ⟨⟨⟨a5, c5, g1, g2, g3⟩, hbx, hrd⟩, hBw⟩ rfl hlt
    obtain ⟨y, hy⟩ : ∃ y, 60 * min x 3 = y := ⟨_, rfl⟩
    have hy180 : y + 60 ≤ 240 := by omega
    have HY := hid hy
    rw [hy]
    obtain ⟨N5, hN5⟩ : ∃ N5, 64 * pre.length = N5 := ⟨_, rfl⟩
    have HN5 := hid hN5
    rw [hN5] at g1 g3
    have hN192 : N5 ≤ 192 := by omega
    have HO := hid g3
    have HR := hid hrd
    have HBW := hid hBw
    have HBX := hid hbx
    have HC := hid (And.intro g1 g2)
    have LG := hid (show w1.heap.size < W.heap.size from World.block_lt_of_cell? W _ g1)
    have hW2 := hid (show w2.heap.size + 2 ≤ W.heap.size by
      obtain ⟨r, hr⟩ := hlr
      have h5 := (Array.getElem?_eq_some_iff.1 hr).1
      have h6 : w2.heap.size + 2 ≤ l := by rw [← ZZ]; exact hl1
      omega)
    have HK' := hid (show ∀ X, Below W.heap.size W X → X.cell? ⟨w1.heap.size, 0, none⟩ = some (.slice a5 N5 c5) ∧ X.frozen? ⟨w1.heap.size, 0, none⟩ = false ∧ X.cell? ⟨w.heap.size, 0, none⟩ = some (.int .i64 L) ∧ X.cell? ⟨w.heap.size, 1, none⟩ = some (.slice a n c) from fun X bb => ⟨(bb.cell (p := ⟨w1.heap.size, 0, none⟩) LG.out).trans g1, (bb.frozen (p := ⟨w1.heap.size, 0, none⟩) LG.out).trans g2, (HBX.out.below bb (Nat.le_refl _)).c0, (HBX.out.below bb (Nat.le_refl _)).c1⟩)
    clear hy hN5 g3 hrd hBw hbx g1 g2 hlr
    gi_wp2
    refine region_KR 7 (fun X => X.cell? ⟨w1.heap.size, 0, none⟩ = some (.slice a5 N5 c5) ∧ X.frozen? ⟨w1.heap.size, 0, none⟩ = false ∧ X.cell? ⟨w.heap.size, 0, none⟩ = some (.int .i64 L) ∧ X.cell? ⟨w.heap.size, 1, none⟩ = some (.slice a n c)) (by kernel_rfl) (by kernel_rfl) (fun ⟨_, _, h⟩ => h) ?_ (fun hHeld => ?_)
    · exact HK'.out _ ((Still.drew W).below _)
    refine anyK_take (i := 0) (v := ?v1) rfl (by kernel_rfl) (by kernel_rfl) (by kernel_rfl) (by kernel_rfl) (fun _ _ _ h => h) (by rfl) hHeld ?hy1 (some 12) (by rfl) ?rest1
    case hy1 => (intro W hSw; obtain ⟨r0, r1, r2, r3⟩ := hSw; go_simp; (try with_reducible rfl))
    try simp only [Act.put]
    try simp only [List.setIfInBounds_toArray]
    try simp only [List.set_cons_succ, List.set_cons_zero]
    refine anyK_take (i := 1) (v := ?v2) rfl (by kernel_rfl) (by kernel_rfl) (by kernel_rfl) (by kernel_rfl) (fun _ _ _ h => h) (by rfl) hHeld ?hy2 (some 13) (by rfl) ?rest2
    case hy2 => (intro W hSw; obtain ⟨r0, r1, r2, r3⟩ := hSw; go_simp; (try with_reducible rfl))
    try simp only [Act.put]
    try simp only [List.setIfInBounds_toArray]
    try simp only [List.set_cons_succ, List.set_cons_zero]
    refine anyK_take (i := 2) (v := ?v3) rfl (by kernel_rfl) (by kernel_rfl) (by kernel_rfl) (by kernel_rfl) (fun _ _ _ h => h) (by rfl) hHeld ?hy3 (some 14) (by rfl) ?rest3
    case hy3 => (intro W hSw; obtain ⟨r0, r1, r2, r3⟩ := hSw; go_simp; (try with_reducible rfl))
    try simp only [Act.put]
    try simp only [List.setIfInBounds_toArray]
    try simp only [List.set_cons_succ, List.set_cons_zero]
    refine anyK_take (i := 4) (v := ?v4) rfl (by kernel_rfl) (by kernel_rfl) (by kernel_rfl) (by kernel_rfl) (fun _ _ _ h => h) (by rfl) hHeld ?hy4 (some 16) (by rfl) ?rest4
    case hy4 => (intro W hSw; obtain ⟨r0, r1, r2, r3⟩ := hSw; go_simp; (try with_reducible rfl))
    try simp only [Act.put]
    try simp only [List.setIfInBounds_toArray]
    try simp only [List.set_cons_succ, List.set_cons_zero]
    refine anyK_step (i := 3) (by kernel_rfl) rfl (fun KP hK => ?_)
    go_simp
    refine (impl_PutNum L 4 W.drew (by omega)).mono ?_
    rintro e u1 ⟨v5, rfl, o5, b5⟩
    rw [HP4.out.1] at o5
    obtain ⟨a6, c6, rfl⟩ := own_sl o5
    have B1 := hid (((Still.drew W).below W.heap.size).trans (b5.mono (Nat.le_refl _)))
    have HP := hid o5
    clear o5 b5
    go_wp2_with fail
    refine hK.out _ _ ?_ (fun hH2 => ?_)
    · exact HK'.out _ B1.out
    clear hK KP hHeld
    have hHeld := hH2
    clear hH2
    try simp only [Act.put]
    try simp only [List.setIfInBounds_toArray]
    try simp only [List.set_cons_succ, List.set_cons_zero]
    refine anyK_step (i := 5) (by kernel_rfl) rfl (fun KP hK => ?_)
    go_simp
    have bC := Below.alloc1 u1 (.cells #[.slice a5 N5 c5, .slice a6 4 c6, .slice (some ⟨gb, y, none⟩) 60 60] 22)
    have B2 := hid (B1.out.trans (bC.mono B1.out.size))
    have R3 := hid (reads_three (heap_alloc_new u1 (.cells #[.slice a5 N5 c5, .slice a6 4 c6, .slice (some ⟨gb, y, none⟩) 60 60] 22)) ((row_of (owns_below B1.out (Nat.le_refl _) HO.out) (bdZ.mem (fun z hz => secsX_mem HBB.out hz)) (by omega)).below bC (Nat.le_refl _)) ((row_of HP.out (show bdZ (putL L 4) from putL_bd L 4) (by omega)).below bC (Nat.le_refl _)) (z3 := (BB.drop y).take 60) (by
      have r := reads_cut (HR.out.below B2.out (Nat.le_refl _)) y 60 hy180
      rw [Nat.zero_add] at r
      have hl60 := r.len
      exact ⟨_, _, by rw [hl60], by rw [hl60]; exact r, fun e => (by cases e), by rw [hl60]; unfold maxLen; omega⟩))
    clear bC
    refine hK.out _ _ ?_ (fun hH2 => ?_)
    · exact HK'.out _ B2.out
    clear hK KP hHeld
    have hHeld := hH2
    clear hH2
    try simp only [Act.put]
    try simp only [List.setIfInBounds_toArray]
    try simp only [List.set_cons_succ, List.set_cons_zero]
    generalize u1.alloc (.cells #[.slice a5 N5 c5, .slice a6 4 c6, .slice (some ⟨gb, y, none⟩) 60 60] 22) = u2 at *
    refine anyK_step (i := 6) (by kernel_rfl) rfl (fun KP hK => ?_)
    go_simp
    have e4 : tot [secsX L BB pre, putL L 4, (BB.drop y).take 60] = N5 + 64 := by
      show (secsX L BB pre).length + ((putL L 4).length + (((BB.drop y).take 60).length + 0)) = N5 + 64
      have h1 : (secsX L BB pre).length = N5 := by have := HO.out.1; simpa [bys] using this
      rw [h1, HP4.out.1, cut_len (by rw [HBL.out]; exact hy180)]
    have e5 : [secsX L BB pre, putL L 4, (BB.drop y).take 60].flatten = secsX L BB (pre ++ [x]) := by rw [secsX_snoc, HY.out]; simp
    refine (impl_joined (m := 3) 3 R3.out rfl (by omega) (by rw [e4]; omega)).mono ?_
    rintro e u3 ⟨v7, rfl, o7, b7⟩
    rw [e4, e5] at o7
    obtain ⟨a7, c7, rfl⟩ := own_sl o7
    have B3 := hid (B2.out.trans (b7.mono B2.out.size))
    have O7 := hid (owns_lower (base' := w2.heap.size + 2) o7 (by have := B2.out.size; have := hW2.out; omega))
    clear o7 b7 e4 e5 R3
    go_wp2_with fail
    refine hK.out _ _ ?_ (fun hH2 => ?_)
    · exact HK'.out _ B3.out
    clear hK KP hHeld
    have hHeld := hH2
    clear hH2
    try simp only [Act.put]
    try simp only [List.setIfInBounds_toArray]
    try simp only [List.set_cons_succ, List.set_cons_zero]
    refine anyK_last (by kernel_rfl) rfl (fun KP hK => ?_)
    go_simp
    refine hK.out _ _ ?_
    clear hK KP hHeld
    refine anyK_done (by kernel_rfl) ?_ _
    have gS := grown_set7 u3 w1.heap.size 0 (.slice a7 (N5 + 64) c7)
    have hG3 : u3.cell? ⟨w1.heap.size, 0, none⟩ = some (.slice a5 N5 c5) := (HK'.out _ B3.out).1
    have hLo := O7.out.lt
    refine ⟨((KeepsOthers.below B3.out).trans (KeepsOthers.setCell _ _ _)).from _, (BX.below (B3.out.mono hW2.out)).trans (BX.setCell _ _), ⟨⟨a7, c7, ?_, ?_, ?_⟩, ?_, ?_⟩, ?_⟩
    · rw [show 64 * (pre ++ [x]).length = N5 + 64 by have := HN5.out; simp; omega]
      exact World.cell?_setCell_same' _ _ _ (by rw [hG3]; rfl)
    · have hf := (HK'.out _ B3.out).2.1
      simpa [go_sem] using hf
    · rw [show 64 * (pre ++ [x]).length = N5 + 64 by have := HN5.out; simp; omega]
      exact O7.out.kept gS (.inr (fun e => by have := (hLo _ e).1; have := S2.out; omega))
    · exact (HBX.out.below B3.out (Nat.le_refl _)).agree (heap_set_ne _ _ _ _ _ (by have := LW1.out; omega))
    · exact (HR.out.below B3.out (Nat.le_refl _)).other gS (fun q e => by cases e; exact fun e => by have := S2.out; simp at e; omega)
    · exact (HBW.out.trans (B3.out.mono HBW.out.size)).setCell (p := ⟨w1.heap.size, 0, none⟩) (by have := LW1.out; show w.heap.size ≤ w1.heap.size; omega) _
  case done =>
    rintro Dd ys W hD rfl ⟨⟨⟨a5, c5, g1, g2, g3⟩, hbx, hrd⟩, hBw⟩ hK
    rw [up_len] at g1 g3
    rw [secsX_up] at g3
    have HO := hid g3
    have HKK := hid hK
    have HBW := hid hBw
    clear g3 hK hBw hbx hrd g2
    gi_wp2
    refine ⟨by simp, .inl ⟨_, _, rfl, run_takeDeferred HKK.out, ?_⟩⟩
    refine ⟨.slice a5 256 c5, ?_, ⟨_, rfl, ?_, HBW.out.trans (belowK_b (w := w) (Nat.le_refl _) _ Dd _ _ (by have h7 : w2.heap.size + 2 ≤ Dd := (by rw [← ZZ]; exact hD); have := LW1.out; have := S2.out; omega) HKK.out rfl rfl)⟩⟩
    · simp [results, Try.f17, go_sem]
    · rw [HBY.out, secsP_len HP4.out.1 HBL.out 4 (by omega)]
      exact owns_lower (own_keptK HO.out (grownBy_putObj' _ Dd (.deferred none)) (fun r e => by cases e; exact ⟨_, HKK.out, rfl⟩)) (by have := LW1.out; have := S2.out; omega)
  case stop =>
    rintro Dd c' pre W hD _ hI hK
    exact False.elim hI
end Go.Proofs.Ytioefplkadpfnaa
/- The contract of the program's readPage: the last number and the slots, or a panic where bytes lack. Conditions: a slice as Go has them. -/


namespace Go.Proofs.Ytioefplkadpfnaa
open Go.RowKit
set_option maxRecDepth 100000

/-- What readPage answers. -/
structure AnsR (zs : List Int) (w : World) (e : Ending) (w' : World) : Prop where
  ex : ((zs.length < 256 ∨ slotsZ (bodyZ zs 4) = none) ∧ ∃ t : Int, e = .panicked [{ v := .iface 75 (.int .i64 t), recovered := false }]) ∨ (256 ≤ zs.length ∧ ∃ ss a' c', slotsZ (bodyZ zs 4) = some ss ∧ e = .returned (.agg #[.int .i64 (numOf ((zs.drop 192).take 4) 0 4), .slice a' ss.length c']) ∧ OwnP w' w.heap.size w'.heap.size (.slice a' ss.length c') ss)
  bel : Below w.heap.size w w'

theorem secB_at (zs : List Int) (k : Nat) : secB zs k = (zs.drop (64 * k + 4)).take 60 := rfl

set_option maxHeartbeats 6400000 in
theorem impl_readPage {a : Option Addr} {n c : Nat} {zs : List Int} {w : World} (h : Reads w a n zs) (hc : n ≤ c) (hc2 : c ≤ 9223372036854775807) :
    Calls Try.prog 61 #[.slice a n c] w fun e w' => AnsR zs w e w' := by
  have HBD := hid (show bdZ zs from h.bd)
  have HL := hid h.len
  have HB := hid (two w (.cells #[.int .i64 0, .slice none 0 0] 26) (.cells #[.slice a n c] 100))
  have R0 := hid (((Below.alloc1 (w.alloc (.cells #[.int .i64 0, .slice none 0 0] 26)) (.cells #[.slice a n c] 100)).block _ (by simp)).trans (heap_alloc_new w (.cells #[.int .i64 0, .slice none 0 0] 26)))
  have RR := hid (show ((w.alloc (.cells #[.int .i64 0, .slice none 0 0] 26)).alloc (.cells #[.slice a n c] 100)).heap[w.heap.size + 1]? = some (.cells #[.slice a n c] 100 (0, 0)) from heap_new2 w (.cells #[.int .i64 0, .slice none 0 0] 26) (.cells #[.slice a n c] 100))
  have HSZ := hid (show w.heap.size + 2 ≤ ((w.alloc (.cells #[.int .i64 0, .slice none 0 0] 26)).alloc (.cells #[.slice a n c] 100)).heap.size by simp)
  have HRD := hid (h.below HB.out (Nat.le_refl _))
  have HLT := hid (fun (b off : Nat) (hn0 : 0 < n) (e : a = some ⟨b, off, none⟩) => (show b < w.heap.size by
    rcases h.cells with h0 | ⟨b', off', e', hcc⟩
    · omega
    · rw [e] at e'
      cases e'
      exact World.block_lt_of_cell? w _ (hcc 0 hn0)))
  clear h
  go_enter Try.func61, Try.ntmps61
  go_wp2_with fail
  generalize (w.alloc (.cells #[.int .i64 0, .slice none 0 0] 26)).alloc (.cells #[.slice a n c] 100) = W at *
  go_loopw [4, 5, 8] (fun l s i wr => ∃ (k : Nat) (L : Int) (a5 ar : Option Addr) (c5 c3 : Nat), k ≤ 4 ∧ 64 * k ≤ n ∧ i = .int .i64 k ∧ l = .int .i64 L ∧ s = .slice a5 (60 * k) c5 ∧ Hid (k = 0 ∨ L = numOf ((zs.drop (64 * (k - 1))).take 4) 0 4) ∧ Hid (wr.ownsRow (w.heap.size + 2) 5 1 (.slice a5 (60 * k) c5) (60 * k) (bys (bodyZ zs k))) ∧ Hid (wr.heap[w.heap.size + 1]? = some (.cells #[.slice ar (n - 64 * k) c3] 100 (0, 0))) ∧ Hid (n - 64 * k = 0 ∨ ∃ b off, ar = some ⟨b, off, none⟩ ∧ Rd wr (w.heap.size + 1) b off (n - 64 * k) c3 (zs.drop (64 * k))) ∧ Hid (wr.heap[w.heap.size]? = some (.cells #[.int .i64 0, .slice none 0 0] 26 (0, 0))) ∧ Hid (Below w.heap.size w wr) ∧ Hid (w.heap.size + 2 ≤ wr.heap.size)) (fun _ _ i _ => 4 - (intOf i).toNat)
  case atStart =>
    refine ⟨0, 0, none, a, 0, c, by omega, by omega, rfl, rfl, rfl, hid (.inl rfl), hid (World.ownsRow_nil _ _ _ _), RR, hid ?_, R0, HB, HSZ⟩
    by_cases hn0 : n = 0
    · exact .inl hn0
    · rcases HRD.out.cells with h0 | ⟨b, off, e, hcc⟩
      · omega
      · have hb := HLT.out b off (by omega) e
        subst e
        exact .inr ⟨b, off, rfl, RR.out, HRD.out, hc, hc2, by omega⟩
  case round =>
    clear RR R0 HB HSZ HRD HLT
    obtain ⟨k, L, a5, ar, c5, c3, hk, hkn, rfl, rfl, rfl, HLL, HO, RR, HR, R0, HB, HZ⟩ := hrel
    by_cases hlt : k < 4
    · have hlt' : (k : Int) < 4 := by omega
      have hk0 : (0 : Int) ≤ (k : Int) := by omega
      go_wp2_with fail
      by_cases h4 : n - 64 * k < 4
      · refine (number_no 4 RR.out h4 (by omega)).mono ?_
        rintro e w1 ⟨rfl, e1⟩
        subst w1
        go_wp2_with fail
        exact ⟨rfl, .inl ⟨.inl (by rw [HL.out]; omega), _, rfl⟩, HB.out⟩
      rcases HR.out with h0 | ⟨b, off, rfl, hR⟩
      · omega
      have HR1 := hid hR
      clear hR HR RR
      refine (number_yes HR1.out 4 (by omega) (by omega)).mono ?_
      rintro e w1 ⟨rfl, hg, off2, c2, hR2⟩
      rw [List.drop_drop] at hR2
      replace HB := hid (HB.out.grown hg HB.out.size (fun q hq => by cases hq; omega))
      replace R0 := hid ((hg.block _ (by have := HZ.out; omega) (by simp)).trans R0.out)
      replace HO := hid (HO.out.kept hg (oty_ne HO.out HR1.out.row (by decide)))
      replace HZ := hid (Nat.le_trans HZ.out hg.size)
      have HR2 := hid hR2
      obtain ⟨L2, hL2⟩ : ∃ L2, numOf ((zs.drop (64 * k)).take 4) 0 ((4 : Nat) : Int) = L2 := ⟨_, rfl⟩
      rw [hL2]
      have HL2 := hid hL2
      clear hR2 hg HR1 HLL hL2
      go_wp2_with fail
      by_cases h60 : n - 64 * k - 4 < 60
      · refine (take_no 60 HR2.out.row h60 (by omega)).mono ?_
        rintro e w2 ⟨rfl, e1⟩
        subst w2
        go_wp2_with fail
        exact ⟨rfl, .inl ⟨.inl (by rw [HL.out]; omega), _, rfl⟩, HB.out⟩
      refine (take_yes HR2.out 60 (by omega)).mono ?_
      rintro e w2 ⟨rfl, hg, off3, c3', hR3⟩
      rw [List.drop_drop] at hR3
      have RT := hid (reads_front (HR2.out.reads.other hg (fun a e => by cases e; exact fun e => HR2.out.ne (Option.some.inj e))) (show 60 ≤ n - 64 * k - 4 by omega))
      have hkl : ((zs.drop (64 * k + 4)).take 60).length = 60 := RT.out.len
      replace HB := hid (HB.out.grown hg HB.out.size (fun q hq => by cases hq; omega))
      replace R0 := hid ((hg.block _ (by have := HZ.out; omega) (by simp)).trans R0.out)
      replace HO := hid (HO.out.kept hg (oty_ne HO.out HR2.out.row (by decide)))
      replace HZ := hid (Nat.le_trans HZ.out hg.size)
      have HR3 := hid hR3
      have HKL := hid hkl
      clear hR3 hg HR2 hkl
      go_wp2_with fail
      have bX := Below.alloc1 w2 (.cells #[.slice a5 (60 * k) c5, .slice (some ⟨b, off2, none⟩) 60 c2] 22)
      have RX := reads_two (heap_alloc_new w2 (.cells #[.slice a5 (60 * k) c5, .slice (some ⟨b, off2, none⟩) 60 c2] 22)) (z1 := bodyZ zs k) (z2 := (zs.drop (64 * k + 4)).take 60) (row_of (owns_below bX (Nat.le_refl _) HO.out) (bodyZ_bd HBD.out k) (by omega)) ⟨_, c2, by rw [HKL.out], by rw [HKL.out]; exact RT.out.below bX (Nat.le_refl _), fun e => (by cases e), by rw [HKL.out]; unfold maxLen; omega⟩
      have hbl : (bodyZ zs k).length = 60 * k := by have := HO.out.1; simpa [bys] using this
      refine (impl_joined (m := 2) 2 RX rfl (by omega) (by show (bodyZ zs k).length + (((zs.drop (64 * k + 4)).take 60).length + 0) ≤ 2097152; rw [HKL.out, hbl]; omega)).mono ?_
      rintro e w4 ⟨v4, rfl, o4, b4⟩
      have b5 := bX.trans (b4.mono bX.size)
      have o5 : w4.ownsRow w2.heap.size 5 1 v4 (60 * (k + 1)) (bys (bodyZ zs (k + 1))) := by
        have := owns_lower o4 bX.size
        have e1 : tot [bodyZ zs k, (zs.drop (64 * k + 4)).take 60] = 60 * (k + 1) := by show (bodyZ zs k).length + (((zs.drop (64 * k + 4)).take 60).length + 0) = _; rw [HKL.out, hbl]; omega
        have e2 : [bodyZ zs k, (zs.drop (64 * k + 4)).take 60].flatten = bodyZ zs (k + 1) := by simp [bodyZ, secB_at]
        rwa [e1, e2] at this
      obtain ⟨a4, c4, rfl⟩ := own_sl o5
      have O5 := hid (owns_lower o5 HZ.out)
      replace HR3 := hid (HR3.out.below b5 (Nat.le_refl _))
      replace R0 := hid ((b5.block _ (by have := HZ.out; omega)).trans R0.out)
      replace HB := hid (HB.out.trans (b5.mono HB.out.size))
      replace HZ := hid (Nat.le_trans HZ.out b5.size)
      clear bX RX o4 b4 b5 o5 RT HO hbl
      go_wp2_with fail
      go_roundw
      case rel => exact ⟨k + 1, L2, a4, _, c4, c3', by omega, by omega, by go_num, rfl, rfl, hid (.inr HL2.out.symm), O5, hid (by rw [show n - 64 * (k + 1) = n - 64 * k - 4 - 60 by omega]; exact HR3.out.row), hid (.inr ⟨b, off3, rfl, by rw [show n - 64 * (k + 1) = n - 64 * k - 4 - 60 by omega, show 64 * (k + 1) = 64 * k + 4 + 60 by omega]; exact HR3.out⟩), R0, HB, HZ⟩
      case measure => simp [intOf]; omega
    · have hlt' : ¬ (k : Int) < 4 := by omega
      obtain rfl : k = 4 := by omega
      obtain rfl : L = numOf ((zs.drop 192).take 4) 0 4 := by
        rcases HLL.out with h0 | h1
        · omega
        · exact h1
      obtain ⟨L2, hL2⟩ : ∃ L2, numOf ((zs.drop 192).take 4) 0 4 = L2 := ⟨_, rfl⟩
      rw [hL2]
      have HL2 := hid hL2
      clear hL2 HLL RR HR
      go_wp2_with fail
      have hbd := bodyZ_bd HBD.out 4
      rcases HO.out.2 with ⟨_, h0⟩ | ⟨g, cap, cur, e, hgb, hgr, hcap, hmx, _, _⟩
      · omega
      cases e
      obtain ⟨ad, cap', e, hr, _⟩ := Reads.own HO.out hbd
      cases e
      refine (impl_readSlots hr hcap (by unfold maxLen at hmx; omega)).mono ?_
      rintro e w1 ⟨hex, hbel⟩
      replace HB := hid (HB.out.trans (hbel.mono HB.out.size))
      rcases hex with ⟨hno, t, rfl⟩ | ⟨ss, a', c', hyes, rfl, hown⟩
      · clear hbd hr hgr hbel
        go_wp2_with fail
        exact ⟨rfl, .inl ⟨.inr hno, _, rfl⟩, HB.out⟩
      · replace R0 := hid ((hbel.block _ (by have := HZ.out; omega)).trans R0.out)
        have T1 := heap_setCell_same w1 w.heap.size 0 _ 26 (.int .i64 L2) R0.out
        have T2 := hid (heap_setCell_same _ w.heap.size 1 _ 26 (.slice a' ss.length c') T1)
        have B6 := hid ((HB.out.setCell (p := ⟨w.heap.size, 0, none⟩) (by simp) (.int .i64 L2)).setCell (p := ⟨w.heap.size, 1, none⟩) (by simp) (.slice a' ss.length c'))
        have r0 : w1.cell? ⟨w.heap.size, 0, none⟩ = some (.int .i64 0) := cell_of_row _ _ 0 _ _ _ R0.out
        have r1 : w1.cell? ⟨w.heap.size, 1, none⟩ = some (.slice none 0 0) := cell_of_row _ _ 1 _ _ _ R0.out
        have rf0 : w1.frozen? ⟨w.heap.size, 0, none⟩ = false := frozen_of_row _ _ _ _ _ R0.out
        have rf1 : w1.frozen? ⟨w.heap.size, 1, none⟩ = false := frozen_of_row _ _ _ _ _ R0.out
        have O6 := hid (hown.agree (w' := (w1.setCell ⟨w.heap.size, 0, none⟩ (.int .i64 L2)).setCell ⟨w.heap.size, 1, none⟩ (.slice a' ss.length c')) (fun q h1 _ => (heap_set_ne _ _ _ _ _ (by have := HZ.out; omega)).trans (heap_set_ne _ _ _ _ _ (by have := HZ.out; omega))))
        have HY := hid hyes
        clear T1 hbd hr hgr hbel hown hyes
        go_wp2_with fail
        exact bodyPost_ret (results_cell_row Try.results61 _ _ w.heap.size 26 _ (0, 0) _ rfl T2.out Try.underlying26 rfl size_pg) rfl ⟨.inr ⟨by rw [HL.out]; omega, ss, a', c', HY.out, by rw [HL2.out]; rfl, O6.out.mono (by have := HZ.out; omega) (by simp only [set_size]; exact Nat.le_refl _)⟩, B6.out⟩
end Go.Proofs.Ytioefplkadpfnaa
/- The contracts of what PageRead defers: it recovers from a lack of bytes. No conditions. -/



namespace Go.Proofs.Ytioefplkadpfnaa
open Go.RowKit
set_option maxRecDepth 100000

theorem as_lack (v : Value) (w : World) : (Instr.typeAssert (.iface 75 v) 20 75 true).run Try.prog w = .ok (.tuple #[v, .bool true]) w := by kernel_rfl
theorem guard_idle (w : World) :
    CallsD Try.prog 60 #[] .returning w fun e u' w' => e = .returned (.tuple #[]) ∧ u' = .returning ∧ w' = w := by
  refine callsD_of_wpS Try.func60 rfl fun c₀ cs hu => ?_
  apply wpS_seq
  apply wpS_region
  simp [wpOpsS, go_sem, recoverD, hu, Try.ntmps60, Exit.thenS]
  refine wpS_of_wp ?_
  rw [show ((Array.replicate 14 undef).setIfInBounds 3 Value.nilIface).setIfInBounds 0 Value.nilIface = #[.nilIface, undef, undef, .nilIface, undef, undef, undef, undef, undef, undef, undef, undef, undef, undef] from rfl]
  go_wp2_with fail
  cases c₀
  simp_all [bodyPostS, results, Try.results60]
theorem guard_panicking (t : Int) (w : World) :
    CallsD Try.prog 60 #[] (.panicking [{ v := .iface 75 (.int .i64 t), recovered := false }]) w fun e u' w' => e = .returned (.tuple #[]) ∧ u' = .panicking [{ v := .iface 75 (.int .i64 t), recovered := true }] ∧ w' = w := by
  refine callsD_of_wpS Try.func60 rfl fun c₀ cs hu => ?_
  apply wpS_seq
  apply wpS_region
  simp [wpOpsS, go_sem, recoverD, hu, Try.ntmps60, Exit.thenS]
  refine wpS_of_wp ?_
  rw [show ((Array.replicate 14 undef).setIfInBounds 3 (Value.iface 75 (.int .i64 t))).setIfInBounds 0 (Value.iface 75 (.int .i64 t)) = #[.iface 75 (.int .i64 t), undef, undef, .iface 75 (.int .i64 t), undef, undef, undef, undef, undef, undef, undef, undef, undef, undef] from rfl]
  have ha := as_lack (.int .i64 t) w
  go_wp2_with fail
  cases c₀
  simp_all [bodyPostS, results, Try.results60]
end Go.Proofs.Ytioefplkadpfnaa
/- The contracts of the program's PagePut and PageClear. Conditions: lists of at most 2^47. -/


namespace Go.Proofs.Ytioefplkadpfnaa
open Go.RowKit
set_option maxRecDepth 100000

set_option maxHeartbeats 6400000 in
theorem impl_PagePut (L : Int) {a : Option Addr} {n : Nat} (c : Nat) {ss : List (List Int)} (slot : Int) {ad : Option Addr} {nd : Nat} (cd : Nat) {zs : List Int} (lsn : Int) {w : World} (h : ReadsS w a ss) (hl : ss.length = n) (hn : n ≤ 140737488355328) (hd : Reads w ad nd zs) (hnil : ad = none → cd = 0)
    {RL : Int} {RS : List (List Int)} {ok : Bool} {m : Nat} (hR : putP L ss slot zs lsn = (RL, RS)) (hk : putOk L ss slot zs lsn = ok) (hm : RS.length = m) :
    Calls Try.prog 13 #[.agg #[.int .i64 L, .slice a n c], .int .i64 slot, .slice ad nd cd, .int .i64 lsn] w fun e w' => ∃ a' c', e = .returned (.tuple #[.agg #[.int .i64 RL, .slice a' m c'], .bool ok]) ∧ OwnP w' w.heap.size w'.heap.size (.slice a' m c') RS ∧ Below w.heap.size w w' := by
  have HR := hid hR
  have HK := hid hk
  have HM := hid hm
  have HNI := hid hnil
  have HDL := hid hd.len
  clear hR hk hm hnil
  have HB := hid (two w (.cells #[.int .i64 L, .slice a n c] 26) (.cells #[.int .i64 0, .slice none 0 0] 26))
  have HX := hid (show ArgP _ _ _ _ _ _ _ from (ArgP.new L n c h 26 w.heap.size rfl).alloc (.cells #[.int .i64 0, .slice none 0 0] 26))
  have R1 := hid (heap_new2 w (.cells #[.int .i64 L, .slice a n c] 26) (.cells #[.int .i64 0, .slice none 0 0] 26))
  have HSZ := hid (show w.heap.size + 2 ≤ ((w.alloc (.cells #[.int .i64 L, .slice a n c] 26)).alloc (.cells #[.int .i64 0, .slice none 0 0] 26)).heap.size by simp)
  have HD0 := hid hd
  clear h hd
  go_enter Try.func13, Try.ntmps13
  go_wp2_with fail
  generalize (w.alloc (.cells #[.int .i64 L, .slice a n c] 26)).alloc (.cells #[.int .i64 0, .slice none 0 0] 26) = W at *
  refine (impl_isPage L c HX.out.reads hl hn).mono ?_
  rintro e w1 ⟨rfl, b⟩
  replace HX := hid (HX.out.below b (Nat.le_refl _))
  replace R1 := hid ((b.block _ (by have := HSZ.out; omega)).trans R1.out)
  replace HB := hid (HB.out.trans (b.mono HB.out.size))
  replace HSZ := hid (Nat.le_trans HSZ.out b.size)
  clear b
  by_cases h1 : okP L ss = false
  · rw [h1]
    have HE := hid h1
    clear h1
    have HO := hid (show putOk L ss slot zs lsn = false from putOk_1 HE.out)
    have T1 := heap_setCell_same w1 (w.heap.size + 1) 0 _ 26 (.int .i64 0) R1.out
    have T2 := hid (heap_setCell_same _ (w.heap.size + 1) 1 _ 26 (.slice none 0 0) T1)
    have B6 := hid ((HB.out.setCell (p := ⟨w.heap.size + 1, 0, none⟩) (by simp) (.int .i64 0)).setCell (p := ⟨w.heap.size + 1, 1, none⟩) (by simp) (.slice none 0 0))
    have r0 : w1.cell? ⟨w.heap.size + 1, 0, none⟩ = some (.int .i64 0) := cell_of_row _ _ 0 _ _ _ R1.out
    have r1 : w1.cell? ⟨w.heap.size + 1, 1, none⟩ = some (.slice none 0 0) := cell_of_row _ _ 1 _ _ _ R1.out
    have rf0 : w1.frozen? ⟨w.heap.size + 1, 0, none⟩ = false := frozen_of_row _ _ _ _ _ R1.out
    have rf1 : w1.frozen? ⟨w.heap.size + 1, 1, none⟩ = false := frozen_of_row _ _ _ _ _ R1.out
    clear T1
    go_wp2_with fail
    obtain ⟨rfl, rfl⟩ : 0 = RL ∧ [] = RS := Prod.mk.inj ((putP_no HO.out).symm.trans HR.out)
    obtain rfl : false = ok := HO.out.symm.trans HK.out
    obtain rfl : 0 = m := HM.out
    exact bodyPost_ret (results_cell_tmp7 Try.results13 _ _ (w.heap.size + 1) 26 _ (0, 0) _ rfl T2.out Try.underlying26 rfl size_pg) rfl ⟨none, 0, rfl, OwnP.nil _ _ _, B6.out⟩
  rw [Bool.not_eq_false] at h1
  rw [h1]
  have HE := hid h1
  clear h1
  go_wp2_with fail
  refine (impl_inP slot 0 15 _).mono ?_
  rintro e w2 ⟨rfl, e1⟩
  subst w2
  by_cases hs : ¬ (0 ≤ slot ∧ slot ≤ 15)
  · rw [decide_eq_false hs]
    have HO := hid (show putOk L ss slot zs lsn = false from putOk_2 hs)
    have T1 := heap_setCell_same w1 (w.heap.size + 1) 0 _ 26 (.int .i64 0) R1.out
    have T2 := hid (heap_setCell_same _ (w.heap.size + 1) 1 _ 26 (.slice none 0 0) T1)
    have B6 := hid ((HB.out.setCell (p := ⟨w.heap.size + 1, 0, none⟩) (by simp) (.int .i64 0)).setCell (p := ⟨w.heap.size + 1, 1, none⟩) (by simp) (.slice none 0 0))
    have r0 : w1.cell? ⟨w.heap.size + 1, 0, none⟩ = some (.int .i64 0) := cell_of_row _ _ 0 _ _ _ R1.out
    have r1 : w1.cell? ⟨w.heap.size + 1, 1, none⟩ = some (.slice none 0 0) := cell_of_row _ _ 1 _ _ _ R1.out
    have rf0 : w1.frozen? ⟨w.heap.size + 1, 0, none⟩ = false := frozen_of_row _ _ _ _ _ R1.out
    have rf1 : w1.frozen? ⟨w.heap.size + 1, 1, none⟩ = false := frozen_of_row _ _ _ _ _ R1.out
    clear T1
    go_wp2_with fail
    obtain ⟨rfl, rfl⟩ : 0 = RL ∧ [] = RS := Prod.mk.inj ((putP_no HO.out).symm.trans HR.out)
    obtain rfl : false = ok := HO.out.symm.trans HK.out
    obtain rfl : 0 = m := HM.out
    exact bodyPost_ret (results_cell_tmp7 Try.results13 _ _ (w.heap.size + 1) 26 _ (0, 0) _ rfl T2.out Try.underlying26 rfl size_pg) rfl ⟨none, 0, rfl, OwnP.nil _ _ _, B6.out⟩
  replace hs := Decidable.not_not.1 hs
  rw [decide_eq_true hs]
  obtain ⟨hs0, hs1⟩ := hs
  go_wp2_with fail
  refine (impl_isFree ad nd cd _).mono ?_
  rintro e w2 ⟨rfl, e1⟩
  subst w2
  by_cases hd0 : nd = 0
  · rw [decide_eq_true hd0]
    subst hd0
    have HO := hid (show putOk L ss slot zs lsn = false from putOk_3 (by rw [HDL.out]; omega))
    have T1 := heap_setCell_same w1 (w.heap.size + 1) 0 _ 26 (.int .i64 0) R1.out
    have T2 := hid (heap_setCell_same _ (w.heap.size + 1) 1 _ 26 (.slice none 0 0) T1)
    have B6 := hid ((HB.out.setCell (p := ⟨w.heap.size + 1, 0, none⟩) (by simp) (.int .i64 0)).setCell (p := ⟨w.heap.size + 1, 1, none⟩) (by simp) (.slice none 0 0))
    have r0 : w1.cell? ⟨w.heap.size + 1, 0, none⟩ = some (.int .i64 0) := cell_of_row _ _ 0 _ _ _ R1.out
    have r1 : w1.cell? ⟨w.heap.size + 1, 1, none⟩ = some (.slice none 0 0) := cell_of_row _ _ 1 _ _ _ R1.out
    have rf0 : w1.frozen? ⟨w.heap.size + 1, 0, none⟩ = false := frozen_of_row _ _ _ _ _ R1.out
    have rf1 : w1.frozen? ⟨w.heap.size + 1, 1, none⟩ = false := frozen_of_row _ _ _ _ _ R1.out
    clear T1
    go_wp2_with fail
    obtain ⟨rfl, rfl⟩ : 0 = RL ∧ [] = RS := Prod.mk.inj ((putP_no HO.out).symm.trans HR.out)
    obtain rfl : false = ok := HO.out.symm.trans HK.out
    obtain rfl : 0 = m := HM.out
    exact bodyPost_ret (results_cell_tmp7 Try.results13 _ _ (w.heap.size + 1) 26 _ (0, 0) _ rfl T2.out Try.underlying26 rfl size_pg) rfl ⟨none, 0, rfl, OwnP.nil _ _ _, B6.out⟩
  rw [decide_eq_false hd0]
  go_wp2_with fail
  refine (impl_isTooLong ad nd cd _).mono ?_
  rintro e w2 ⟨rfl, e1⟩
  subst w2
  by_cases hd1 : 92 < nd
  · rw [decide_eq_true hd1]
    have HO := hid (show putOk L ss slot zs lsn = false from putOk_3 (by rw [HDL.out]; omega))
    have T1 := heap_setCell_same w1 (w.heap.size + 1) 0 _ 26 (.int .i64 0) R1.out
    have T2 := hid (heap_setCell_same _ (w.heap.size + 1) 1 _ 26 (.slice none 0 0) T1)
    have B6 := hid ((HB.out.setCell (p := ⟨w.heap.size + 1, 0, none⟩) (by simp) (.int .i64 0)).setCell (p := ⟨w.heap.size + 1, 1, none⟩) (by simp) (.slice none 0 0))
    have r0 : w1.cell? ⟨w.heap.size + 1, 0, none⟩ = some (.int .i64 0) := cell_of_row _ _ 0 _ _ _ R1.out
    have r1 : w1.cell? ⟨w.heap.size + 1, 1, none⟩ = some (.slice none 0 0) := cell_of_row _ _ 1 _ _ _ R1.out
    have rf0 : w1.frozen? ⟨w.heap.size + 1, 0, none⟩ = false := frozen_of_row _ _ _ _ _ R1.out
    have rf1 : w1.frozen? ⟨w.heap.size + 1, 1, none⟩ = false := frozen_of_row _ _ _ _ _ R1.out
    clear T1
    go_wp2_with fail
    obtain ⟨rfl, rfl⟩ : 0 = RL ∧ [] = RS := Prod.mk.inj ((putP_no HO.out).symm.trans HR.out)
    obtain rfl : false = ok := HO.out.symm.trans HK.out
    obtain rfl : 0 = m := HM.out
    exact bodyPost_ret (results_cell_tmp7 Try.results13 _ _ (w.heap.size + 1) 26 _ (0, 0) _ rfl T2.out Try.underlying26 rfl size_pg) rfl ⟨none, 0, rfl, OwnP.nil _ _ _, B6.out⟩
  rw [decide_eq_false hd1]
  go_wp2_with fail
  refine (impl_inP lsn 1 1000000 _).mono ?_
  rintro e w2 ⟨rfl, e1⟩
  subst w2
  by_cases hs : ¬ (1 ≤ lsn ∧ lsn ≤ 1000000)
  · rw [decide_eq_false hs]
    have HO := hid (show putOk L ss slot zs lsn = false from putOk_4 hs)
    have T1 := heap_setCell_same w1 (w.heap.size + 1) 0 _ 26 (.int .i64 0) R1.out
    have T2 := hid (heap_setCell_same _ (w.heap.size + 1) 1 _ 26 (.slice none 0 0) T1)
    have B6 := hid ((HB.out.setCell (p := ⟨w.heap.size + 1, 0, none⟩) (by simp) (.int .i64 0)).setCell (p := ⟨w.heap.size + 1, 1, none⟩) (by simp) (.slice none 0 0))
    have r0 : w1.cell? ⟨w.heap.size + 1, 0, none⟩ = some (.int .i64 0) := cell_of_row _ _ 0 _ _ _ R1.out
    have r1 : w1.cell? ⟨w.heap.size + 1, 1, none⟩ = some (.slice none 0 0) := cell_of_row _ _ 1 _ _ _ R1.out
    have rf0 : w1.frozen? ⟨w.heap.size + 1, 0, none⟩ = false := frozen_of_row _ _ _ _ _ R1.out
    have rf1 : w1.frozen? ⟨w.heap.size + 1, 1, none⟩ = false := frozen_of_row _ _ _ _ _ R1.out
    clear T1
    go_wp2_with fail
    obtain ⟨rfl, rfl⟩ : 0 = RL ∧ [] = RS := Prod.mk.inj ((putP_no HO.out).symm.trans HR.out)
    obtain rfl : false = ok := HO.out.symm.trans HK.out
    obtain rfl : 0 = m := HM.out
    exact bodyPost_ret (results_cell_tmp7 Try.results13 _ _ (w.heap.size + 1) 26 _ (0, 0) _ rfl T2.out Try.underlying26 rfl size_pg) rfl ⟨none, 0, rfl, OwnP.nil _ _ _, B6.out⟩
  replace hs := Decidable.not_not.1 hs
  rw [decide_eq_true hs]
  obtain ⟨hs2, hs3⟩ := hs
  obtain ⟨q, rfl⟩ := Int.eq_ofNat_of_zero_le hs0
  have HPK := hid (show putOk L ss (q : Int) zs lsn = okP lsn (layP ss q zs) from putOk_eq HE.out ⟨hs0, hs1⟩ (by rw [HDL.out]; omega) ⟨hs2, hs3⟩)
  have HTR := hid (lay_trim (slot := q) HE.out (show 0 < zs.length by rw [HDL.out]; omega))
  have hn16 : n ≤ 16 := by have := (okP_of HE.out).n; omega
  have HZ92 := hid (fun i => Nat.le_trans ((okP_of HE.out).z i) (show 92 ≤ 1048576 by omega))
  obtain ⟨c0, c1⟩ := HX.out.box
  go_wp2_with fail
  refine (impl_with L c q cd lsn HX.out.reads hl (by omega) HZ92.out (by omega) (HD0.out.below HB.out (Nat.le_refl _)) HNI.out (by omega)).mono ?_
  rintro e w2 ⟨a1, c1', rfl, o, b⟩
  rw [HTR.out] at o
  obtain ⟨k, hk⟩ : ∃ k, (layP ss q zs).length = k := ⟨_, rfl⟩
  have HLK := hid hk
  have hk16 : k ≤ 16 := by rw [layP_length, hl] at hk; omega
  rw [hk] at o
  rw [HTR.out, hk]
  replace R1 := hid ((b.block _ (by have := HSZ.out; omega)).trans R1.out)
  replace HB := hid (HB.out.trans (b.mono HB.out.size))
  have LO := hid (show w.heap.size + 2 ≤ w1.heap.size from HSZ.out)
  replace HSZ := hid (Nat.le_trans HSZ.out b.size)
  have HO := hid o
  clear b o c0 c1 HX hk
  go_wp2_with fail
  have HX := hid (ArgP.new lsn k c1' HO.out.rd 26 w2.heap.size rfl)
  have bA := Below.alloc1 w2 (.cells #[.int .i64 lsn, .slice a1 k c1'] 26)
  replace HO := hid (HO.out.below bA (Nat.le_refl _))
  replace R1 := hid ((bA.block _ (by have := HSZ.out; omega)).trans R1.out)
  replace HB := hid (HB.out.trans (bA.mono HB.out.size))
  have HXL := hid HX.out.lt
  generalize w2.alloc (.cells #[.int .i64 lsn, .slice a1 k c1'] 26) = V0 at *
  clear bA
  refine (impl_isPage lsn c1' HX.out.reads HLK.out (by omega)).mono ?_
  rintro e w3 ⟨rfl, b⟩
  replace HX := hid (HX.out.below b (Nat.le_refl _))
  replace HO := hid (HO.out.below b (Nat.le_of_lt HXL.out))
  replace R1 := hid ((b.block _ (by have := HXL.out; have := HSZ.out; omega)).trans R1.out)
  replace HB := hid (HB.out.trans (b.mono HB.out.size))
  have S3 := hid b.size
  clear b
  by_cases h1 : okP lsn (layP ss q zs) = false
  · rw [h1]
    have HEE := hid h1
    clear h1
    clear HO
    have HO := hid (show putOk L ss (q : Int) zs lsn = false from HPK.out.trans HEE.out)
    have T1 := heap_setCell_same w3 (w.heap.size + 1) 0 _ 26 (.int .i64 0) R1.out
    have T2 := hid (heap_setCell_same _ (w.heap.size + 1) 1 _ 26 (.slice none 0 0) T1)
    have B6 := hid ((HB.out.setCell (p := ⟨w.heap.size + 1, 0, none⟩) (by simp) (.int .i64 0)).setCell (p := ⟨w.heap.size + 1, 1, none⟩) (by simp) (.slice none 0 0))
    have r0 : w3.cell? ⟨w.heap.size + 1, 0, none⟩ = some (.int .i64 0) := cell_of_row _ _ 0 _ _ _ R1.out
    have r1 : w3.cell? ⟨w.heap.size + 1, 1, none⟩ = some (.slice none 0 0) := cell_of_row _ _ 1 _ _ _ R1.out
    have rf0 : w3.frozen? ⟨w.heap.size + 1, 0, none⟩ = false := frozen_of_row _ _ _ _ _ R1.out
    have rf1 : w3.frozen? ⟨w.heap.size + 1, 1, none⟩ = false := frozen_of_row _ _ _ _ _ R1.out
    clear T1
    go_wp2_with fail
    obtain ⟨rfl, rfl⟩ : 0 = RL ∧ [] = RS := Prod.mk.inj ((putP_no HO.out).symm.trans HR.out)
    obtain rfl : false = ok := HO.out.symm.trans HK.out
    obtain rfl : 0 = m := HM.out
    exact bodyPost_ret (results_cell_tmp7 Try.results13 _ _ (w.heap.size + 1) 26 _ (0, 0) _ rfl T2.out Try.underlying26 rfl size_pg) rfl ⟨none, 0, rfl, OwnP.nil _ _ _, B6.out⟩
  rw [Bool.not_eq_false] at h1
  rw [h1]
  have HEE := hid h1
  clear h1
  have HOK := hid (show putOk L ss (q : Int) zs lsn = true from HPK.out.trans HEE.out)
  obtain ⟨rfl, rfl⟩ : lsn = RL ∧ layP ss q zs = RS := Prod.mk.inj ((putP_yes HOK.out).symm.trans HR.out)
  obtain rfl : true = ok := HOK.out.symm.trans HK.out
  obtain rfl : k = m := HLK.out.symm.trans HM.out
  obtain ⟨d0, d1⟩ := HX.out.box
  have T1 := heap_setCell_same w3 (w.heap.size + 1) 0 _ 26 (.int .i64 lsn) R1.out
  have T2 := hid (heap_setCell_same _ (w.heap.size + 1) 1 _ 26 (.slice a1 k c1') T1)
  have B6 := hid ((HB.out.setCell (p := ⟨w.heap.size + 1, 0, none⟩) (by simp) (.int .i64 lsn)).setCell (p := ⟨w.heap.size + 1, 1, none⟩) (by simp) (.slice a1 k c1'))
  have r0 : w3.cell? ⟨w.heap.size + 1, 0, none⟩ = some (.int .i64 0) := cell_of_row _ _ 0 _ _ _ R1.out
  have r1 : w3.cell? ⟨w.heap.size + 1, 1, none⟩ = some (.slice none 0 0) := cell_of_row _ _ 1 _ _ _ R1.out
  have rf0 : w3.frozen? ⟨w.heap.size + 1, 0, none⟩ = false := frozen_of_row _ _ _ _ _ R1.out
  have rf1 : w3.frozen? ⟨w.heap.size + 1, 1, none⟩ = false := frozen_of_row _ _ _ _ _ R1.out
  clear T1
  have O6 := hid (HO.out.agree (w' := (w3.setCell ⟨w.heap.size + 1, 0, none⟩ (.int .i64 lsn)).setCell ⟨w.heap.size + 1, 1, none⟩ (.slice a1 k c1')) (fun k h1 _ => (heap_set_ne _ _ _ _ _ (by have := LO.out; omega)).trans (heap_set_ne _ _ _ _ _ (by have := LO.out; omega))))
  go_wp2_with fail
  exact bodyPost_ret (results_cell_tmp7 Try.results13 _ _ (w.heap.size + 1) 26 _ (0, 0) _ rfl T2.out Try.underlying26 rfl size_pg) rfl ⟨_, _, rfl, O6.out.mono (by have := LO.out; omega) (by simp only [set_size]; have := HXL.out; have := S3.out; omega), B6.out⟩

set_option maxHeartbeats 6400000 in
theorem impl_PageClear (L : Int) {a : Option Addr} {n : Nat} (c : Nat) {ss : List (List Int)} (slot : Int) (lsn : Int) {w : World} (h : ReadsS w a ss) (hl : ss.length = n) (hn : n ≤ 140737488355328)
    {RL : Int} {RS : List (List Int)} {ok : Bool} {m : Nat} (hR : clearP L ss slot lsn = (RL, RS)) (hk : clearOk L ss slot lsn = ok) (hm : RS.length = m) :
    Calls Try.prog 19 #[.agg #[.int .i64 L, .slice a n c], .int .i64 slot, .int .i64 lsn] w fun e w' => ∃ a' c', e = .returned (.tuple #[.agg #[.int .i64 RL, .slice a' m c'], .bool ok]) ∧ OwnP w' w.heap.size w'.heap.size (.slice a' m c') RS ∧ Below w.heap.size w w' := by
  have HR := hid hR
  have HK := hid hk
  have HM := hid hm


  clear hR hk hm 
  have HB := hid (two w (.cells #[.int .i64 L, .slice a n c] 26) (.cells #[.int .i64 0, .slice none 0 0] 26))
  have HX := hid (show ArgP _ _ _ _ _ _ _ from (ArgP.new L n c h 26 w.heap.size rfl).alloc (.cells #[.int .i64 0, .slice none 0 0] 26))
  have R1 := hid (heap_new2 w (.cells #[.int .i64 L, .slice a n c] 26) (.cells #[.int .i64 0, .slice none 0 0] 26))
  have HSZ := hid (show w.heap.size + 2 ≤ ((w.alloc (.cells #[.int .i64 L, .slice a n c] 26)).alloc (.cells #[.int .i64 0, .slice none 0 0] 26)).heap.size by simp)

  clear h 
  go_enter Try.func19, Try.ntmps19
  go_wp2_with fail
  generalize (w.alloc (.cells #[.int .i64 L, .slice a n c] 26)).alloc (.cells #[.int .i64 0, .slice none 0 0] 26) = W at *
  refine (impl_isPage L c HX.out.reads hl hn).mono ?_
  rintro e w1 ⟨rfl, b⟩
  replace HX := hid (HX.out.below b (Nat.le_refl _))
  replace R1 := hid ((b.block _ (by have := HSZ.out; omega)).trans R1.out)
  replace HB := hid (HB.out.trans (b.mono HB.out.size))
  replace HSZ := hid (Nat.le_trans HSZ.out b.size)
  clear b
  by_cases h1 : okP L ss = false
  · rw [h1]
    have HE := hid h1
    clear h1
    have HO := hid (show clearOk L ss slot lsn = false from clearOk_1 HE.out)
    have T1 := heap_setCell_same w1 (w.heap.size + 1) 0 _ 26 (.int .i64 0) R1.out
    have T2 := hid (heap_setCell_same _ (w.heap.size + 1) 1 _ 26 (.slice none 0 0) T1)
    have B6 := hid ((HB.out.setCell (p := ⟨w.heap.size + 1, 0, none⟩) (by simp) (.int .i64 0)).setCell (p := ⟨w.heap.size + 1, 1, none⟩) (by simp) (.slice none 0 0))
    have r0 : w1.cell? ⟨w.heap.size + 1, 0, none⟩ = some (.int .i64 0) := cell_of_row _ _ 0 _ _ _ R1.out
    have r1 : w1.cell? ⟨w.heap.size + 1, 1, none⟩ = some (.slice none 0 0) := cell_of_row _ _ 1 _ _ _ R1.out
    have rf0 : w1.frozen? ⟨w.heap.size + 1, 0, none⟩ = false := frozen_of_row _ _ _ _ _ R1.out
    have rf1 : w1.frozen? ⟨w.heap.size + 1, 1, none⟩ = false := frozen_of_row _ _ _ _ _ R1.out
    clear T1
    go_wp2_with fail
    obtain ⟨rfl, rfl⟩ : 0 = RL ∧ [] = RS := Prod.mk.inj ((clearP_no HO.out).symm.trans HR.out)
    obtain rfl : false = ok := HO.out.symm.trans HK.out
    obtain rfl : 0 = m := HM.out
    exact bodyPost_ret (results_cell_tmp7 Try.results19 _ _ (w.heap.size + 1) 26 _ (0, 0) _ rfl T2.out Try.underlying26 rfl size_pg) rfl ⟨none, 0, rfl, OwnP.nil _ _ _, B6.out⟩
  rw [Bool.not_eq_false] at h1
  rw [h1]
  have HE := hid h1
  clear h1
  have hn16 : n ≤ 16 := by have := (okP_of HE.out).n; omega
  obtain ⟨c0, c1⟩ := HX.out.box
  go_wp2_with fail
  refine (impl_inP slot 0 ((n : Int) - 1) _).mono ?_
  rintro e w2 ⟨rfl, e1⟩
  subst w2
  by_cases hs : ¬ (0 ≤ slot ∧ slot ≤ (n : Int) - 1)
  · rw [decide_eq_false hs]
    have HO := hid (show clearOk L ss slot lsn = false from clearOk_2 (by rw [hl]; exact hs))
    have T1 := heap_setCell_same w1 (w.heap.size + 1) 0 _ 26 (.int .i64 0) R1.out
    have T2 := hid (heap_setCell_same _ (w.heap.size + 1) 1 _ 26 (.slice none 0 0) T1)
    have B6 := hid ((HB.out.setCell (p := ⟨w.heap.size + 1, 0, none⟩) (by simp) (.int .i64 0)).setCell (p := ⟨w.heap.size + 1, 1, none⟩) (by simp) (.slice none 0 0))
    have r0 : w1.cell? ⟨w.heap.size + 1, 0, none⟩ = some (.int .i64 0) := cell_of_row _ _ 0 _ _ _ R1.out
    have r1 : w1.cell? ⟨w.heap.size + 1, 1, none⟩ = some (.slice none 0 0) := cell_of_row _ _ 1 _ _ _ R1.out
    have rf0 : w1.frozen? ⟨w.heap.size + 1, 0, none⟩ = false := frozen_of_row _ _ _ _ _ R1.out
    have rf1 : w1.frozen? ⟨w.heap.size + 1, 1, none⟩ = false := frozen_of_row _ _ _ _ _ R1.out
    clear T1
    go_wp2_with fail
    obtain ⟨rfl, rfl⟩ : 0 = RL ∧ [] = RS := Prod.mk.inj ((clearP_no HO.out).symm.trans HR.out)
    obtain rfl : false = ok := HO.out.symm.trans HK.out
    obtain rfl : 0 = m := HM.out
    exact bodyPost_ret (results_cell_tmp7 Try.results19 _ _ (w.heap.size + 1) 26 _ (0, 0) _ rfl T2.out Try.underlying26 rfl size_pg) rfl ⟨none, 0, rfl, OwnP.nil _ _ _, B6.out⟩
  replace hs := Decidable.not_not.1 hs
  rw [decide_eq_true hs]
  obtain ⟨hs0, hs1⟩ := hs
  go_wp2_with fail
  refine (impl_inP lsn 1 1000000 _).mono ?_
  rintro e w2 ⟨rfl, e1⟩
  subst w2
  by_cases hs : ¬ (1 ≤ lsn ∧ lsn ≤ 1000000)
  · rw [decide_eq_false hs]
    have HO := hid (show clearOk L ss slot lsn = false from clearOk_3 hs)
    have T1 := heap_setCell_same w1 (w.heap.size + 1) 0 _ 26 (.int .i64 0) R1.out
    have T2 := hid (heap_setCell_same _ (w.heap.size + 1) 1 _ 26 (.slice none 0 0) T1)
    have B6 := hid ((HB.out.setCell (p := ⟨w.heap.size + 1, 0, none⟩) (by simp) (.int .i64 0)).setCell (p := ⟨w.heap.size + 1, 1, none⟩) (by simp) (.slice none 0 0))
    have r0 : w1.cell? ⟨w.heap.size + 1, 0, none⟩ = some (.int .i64 0) := cell_of_row _ _ 0 _ _ _ R1.out
    have r1 : w1.cell? ⟨w.heap.size + 1, 1, none⟩ = some (.slice none 0 0) := cell_of_row _ _ 1 _ _ _ R1.out
    have rf0 : w1.frozen? ⟨w.heap.size + 1, 0, none⟩ = false := frozen_of_row _ _ _ _ _ R1.out
    have rf1 : w1.frozen? ⟨w.heap.size + 1, 1, none⟩ = false := frozen_of_row _ _ _ _ _ R1.out
    clear T1
    go_wp2_with fail
    obtain ⟨rfl, rfl⟩ : 0 = RL ∧ [] = RS := Prod.mk.inj ((clearP_no HO.out).symm.trans HR.out)
    obtain rfl : false = ok := HO.out.symm.trans HK.out
    obtain rfl : 0 = m := HM.out
    exact bodyPost_ret (results_cell_tmp7 Try.results19 _ _ (w.heap.size + 1) 26 _ (0, 0) _ rfl T2.out Try.underlying26 rfl size_pg) rfl ⟨none, 0, rfl, OwnP.nil _ _ _, B6.out⟩
  replace hs := Decidable.not_not.1 hs
  rw [decide_eq_true hs]
  obtain ⟨hs2, hs3⟩ := hs
  obtain ⟨q, rfl⟩ := Int.eq_ofNat_of_zero_le hs0
  have HOK := hid (show clearOk L ss (q : Int) lsn = true from clearOk_yes HE.out ⟨hs0, by rw [hl]; exact hs1⟩ ⟨hs2, hs3⟩)
  have HZ92 := hid (fun i => Nat.le_trans ((okP_of HE.out).z i) (show 92 ≤ 1048576 by omega))
  obtain ⟨rfl, rfl⟩ : lsn = RL ∧ trimP (layP ss q []) = RS := Prod.mk.inj ((clearP_yes HOK.out).symm.trans HR.out)
  obtain rfl : true = ok := HOK.out.symm.trans HK.out
  go_wp2_with fail
  refine (impl_with L c q 0 lsn HX.out.reads hl (by omega) HZ92.out (by omega) (show Reads w1 none 0 [] from ⟨rfl, .inl rfl, by simp⟩) (fun _ => rfl) (by omega)).mono ?_
  rintro e w2 ⟨a1, c1', rfl, o, b⟩
  rw [HM.out] at o ⊢
  replace R1 := hid ((b.block _ (by have := HSZ.out; omega)).trans R1.out)
  replace HB := hid (HB.out.trans (b.mono HB.out.size))
  have LO := hid (show w.heap.size + 2 ≤ w1.heap.size from HSZ.out)
  have HO := hid o
  clear b o c0 c1 HX
  have T1 := heap_setCell_same w2 (w.heap.size + 1) 0 _ 26 (.int .i64 lsn) R1.out
  have T2 := hid (heap_setCell_same _ (w.heap.size + 1) 1 _ 26 (.slice a1 m c1') T1)
  have B6 := hid ((HB.out.setCell (p := ⟨w.heap.size + 1, 0, none⟩) (by simp) (.int .i64 lsn)).setCell (p := ⟨w.heap.size + 1, 1, none⟩) (by simp) (.slice a1 m c1'))
  have r0 : w2.cell? ⟨w.heap.size + 1, 0, none⟩ = some (.int .i64 0) := cell_of_row _ _ 0 _ _ _ R1.out
  have r1 : w2.cell? ⟨w.heap.size + 1, 1, none⟩ = some (.slice none 0 0) := cell_of_row _ _ 1 _ _ _ R1.out
  have rf0 : w2.frozen? ⟨w.heap.size + 1, 0, none⟩ = false := frozen_of_row _ _ _ _ _ R1.out
  have rf1 : w2.frozen? ⟨w.heap.size + 1, 1, none⟩ = false := frozen_of_row _ _ _ _ _ R1.out
  clear T1
  have O6 := hid (HO.out.agree (w' := (w2.setCell ⟨w.heap.size + 1, 0, none⟩ (.int .i64 lsn)).setCell ⟨w.heap.size + 1, 1, none⟩ (.slice a1 m c1')) (fun k h1 _ => (heap_set_ne _ _ _ _ _ (by have := LO.out; omega)).trans (heap_set_ne _ _ _ _ _ (by have := LO.out; omega))))
  go_wp2_with fail
  exact bodyPost_ret (results_cell_tmp7 Try.results19 _ _ (w.heap.size + 1) 26 _ (0, 0) _ rfl T2.out Try.underlying26 rfl size_pg) rfl ⟨_, _, rfl, O6.out.mono (by have := LO.out; omega) (by simp only [set_size]; exact Nat.le_refl _), B6.out⟩
end Go.Proofs.Ytioefplkadpfnaa
/- The contract of the program's PageRead. Conditions: a slice as Go has them. -/



namespace Go.Proofs.Ytioefplkadpfnaa
open Go.RowKit
set_option maxRecDepth 100000

theorem read_impl {zs : List Int} {ss : List (List Int)} {L : Int} (h256 : 256 ≤ zs.length) (hs : slotsZ (bodyZ zs 4) = some ss) (hL : numOf ((zs.drop 192).take 4) 0 4 = L) :
    (bytesP L ss = zs → readP zs = some (L, ss)) ∧ (bytesP L ss ≠ zs → readP zs = none) := by
  by_cases hz : zs.length = 256
  · have := read_last hz hs
    exact ⟨fun h => this.1 L hL.symm h, fun h => this.2 (by rw [hL]; exact h)⟩
  · refine ⟨fun h => absurd ?_ hz, fun _ => read_none_len hz⟩
    have ho := bytes_ok h (by intro e; rw [e] at h256; simp at h256)
    rw [← h]
    exact bytesP_len ho
theorem cutA_length {body : List Int} : ∀ (j : Nat) (acc : List (List Int)) (p : Nat), cutA body j = some (acc, p) → acc.length = j
  | 0, acc, p, h => by cases h; rfl
  | j + 1, acc, p, h => by
    rw [cutA] at h
    split at h
    · cases h
    · rename_i acc' p' hc
      split at h
      · cases h
        rw [List.length_append, cutA_length j acc' p' hc]; rfl
      · cases h
theorem slots_few {body : List Int} {ss : List (List Int)} (h : slotsZ body = some ss) : 1 + ss.length ≤ body.length := by
  by_cases h1 : 1 + lenB body 0 ≤ body.length
  · cases hc : cutA body (lenB body 0) with
    | none => rw [slotsZ_no2 (Nat.le_refl _) hc] at h; cases h
    | some q =>
      obtain ⟨acc, p⟩ := q
      rw [slotsZ_yes h1 hc] at h
      cases h
      rw [cutA_length _ _ _ hc]; exact h1
  · rw [slotsZ_no1 h1] at h; cases h
theorem read_less {zs : List Int} (h : zs.length < 256 ∨ slotsZ (bodyZ zs 4) = none) : readP zs = none := by
  rcases h with h | h
  · exact read_none_len (by omega)
  · exact read_none_slots h

set_option maxHeartbeats 6400000 in
theorem impl_PageRead {a : Option Addr} {n c : Nat} {zs : List Int} {w : World} (h : Reads w a n zs) (hc : n ≤ c) (hc2 : c ≤ 9223372036854775807)
    {RL : Int} {RS : List (List Int)} {ok : Bool} {m : Nat} (hR : (readP zs).getD (0, []) = (RL, RS)) (hk : (readP zs).isSome = ok) (hm : RS.length = m) :
    Calls Try.prog 16 #[.slice a n c] w fun e w' => ∃ a' c', e = .returned (.tuple #[.agg #[.int .i64 RL, .slice a' m c'], .bool ok]) ∧ OwnP w' w.heap.size w'.heap.size (.slice a' m c') RS ∧ Below w.heap.size w w' := by
  have HR := hid hR
  have HK := hid hk
  have HM := hid hm
  clear hR hk hm
  have HB := hid (Below.alloc1 w (.cells #[.int .i64 0, .slice none 0 0] 26))
  have R0 := hid (heap_alloc_new w (.cells #[.int .i64 0, .slice none 0 0] 26))
  have HSZ := hid (show w.heap.size + 1 ≤ (w.alloc (.cells #[.int .i64 0, .slice none 0 0] 26)).heap.size by simp)
  have HRD := hid (h.below HB.out (Nat.le_refl _))
  clear h
  go_enter_defers Try.func16, Try.ntmps16
  go_wp2_with fail
  generalize w.alloc (.cells #[.int .i64 0, .slice none 0 0] 26) = W at *
  refine (impl_readPage HRD.out hc hc2).mono ?_
  rintro e w1 ⟨hex, b⟩
  replace HRD := hid (HRD.out.below b (Nat.le_refl _))
  replace R0 := hid ((b.block _ (by have := HSZ.out; omega)).trans R0.out)
  replace HB := hid (HB.out.trans (b.mono HB.out.size))
  rcases hex with ⟨hno, t, rfl⟩ | ⟨h256, ss, a', c', hyes, rfl, hown⟩
  · have HN := hid (read_less hno)
    clear hno b
    go_wp2_with fail
    refine leaves_cons (f := 60) (args := #[]) (by simp) (by simp [go_sem]) ?_
    refine (guard_panicking t _).mono ?_
    rintro e u' w'' ⟨rfl, rfl, rfl⟩
    obtain ⟨rfl, rfl⟩ : 0 = RL ∧ [] = RS := Prod.mk.inj ((show (readP zs).getD (0, []) = (0, []) by rw [HN.out]; rfl).symm.trans HR.out)
    obtain rfl : false = ok := (show (readP zs).isSome = false by rw [HN.out]; rfl).symm.trans HK.out
    obtain rfl : 0 = m := HM.out
    exact ⟨_, results_cell_tmp7 Try.results16 _ _ w.heap.size 26 _ (0, 0) _ rfl R0.out Try.underlying26 rfl size_pg, none, 0, rfl, OwnP.nil _ _ _, HB.out⟩
  obtain ⟨L, hL⟩ : ∃ L, numOf ((zs.drop 192).take 4) 0 4 = L := ⟨_, rfl⟩
  rw [hL]
  have HRI := hid (read_impl h256 hyes hL)
  have LO := hid (show w.heap.size + 1 ≤ W.heap.size from HSZ.out)
  replace HSZ := hid (Nat.le_trans HSZ.out b.size)
  obtain ⟨k, hk⟩ : ∃ k, ss.length = k := ⟨_, rfl⟩
  have HLK := hid hk
  rw [hk] at hown ⊢
  have hk47 : k ≤ 140737488355328 := by
    have := slots_few hyes
    rw [bodyZ_len h256 4 (by omega)] at this
    omega
  have bX := Below.alloc1 w1 (.cells #[.int .i64 L, .slice a' k c'] 26)
  have RX := hid (heap_alloc_new w1 (.cells #[.int .i64 L, .slice a' k c'] 26))
  have HO := hid (hown.below bX (Nat.le_refl _))
  replace HRD := hid (HRD.out.below bX (Nat.le_refl _))
  replace R0 := hid ((bX.block _ (by have := HSZ.out; omega)).trans R0.out)
  replace HB := hid (HB.out.trans (bX.mono HB.out.size))
  have S1 := hid (show (w1.alloc (.cells #[.int .i64 L, .slice a' k c'] 26)).heap.size = w1.heap.size + 1 by simp)
  clear b hown hL hk h256 hyes bX
  go_wp2_with fail
  generalize w1.alloc (.cells #[.int .i64 L, .slice a' k c'] 26) = V0 at *
  refine (impl_PageBytes L c' HO.out.rd HLK.out hk47).mono ?_
  rintro e w2 ⟨v, rfl, ov, b⟩
  have HBB := hid (bytesP_bd (L := L) HO.out.rd.bd)
  obtain ⟨av, cv, rfl, rv, _⟩ := Reads.own ov HBB.out
  have RV := hid rv
  replace HO := hid (HO.out.below b (by have := S1.out; omega))
  replace HRD := hid (HRD.out.below b (Nat.le_refl _))
  replace R0 := hid ((b.block _ (by have := S1.out; have := HSZ.out; omega)).trans R0.out)
  replace RX := hid ((b.block _ (by have := S1.out; omega)).trans RX.out)
  replace HB := hid (HB.out.trans (b.mono HB.out.size))
  have S2 := hid (show w1.heap.size + 1 ≤ w2.heap.size by have := S1.out; have := b.size; omega)
  clear ov rv b
  go_wp2_with fail
  refine (bytes_equal cv c RV.out HRD.out).mono ?_
  rintro e w3 ⟨rfl, e3⟩
  subst w3
  have x0 : w2.cell? ⟨w1.heap.size, 0, none⟩ = some (.int .i64 L) := cell_of_row _ _ 0 _ _ _ RX.out
  have x1 : w2.cell? ⟨w1.heap.size, 1, none⟩ = some (.slice a' k c') := cell_of_row _ _ 1 _ _ _ RX.out
  have r0 : w2.cell? ⟨w.heap.size, 0, none⟩ = some (.int .i64 0) := cell_of_row _ _ 0 _ _ _ R0.out
  have r1 : w2.cell? ⟨w.heap.size, 1, none⟩ = some (.slice none 0 0) := cell_of_row _ _ 1 _ _ _ R0.out
  have rf0 : w2.frozen? ⟨w.heap.size, 0, none⟩ = false := frozen_of_row _ _ _ _ _ R0.out
  have rf1 : w2.frozen? ⟨w.heap.size, 1, none⟩ = false := frozen_of_row _ _ _ _ _ R0.out
  by_cases he : bytesP L ss ≠ zs
  · have HN := hid (HRI.out.2 he)
    rw [decide_eq_false he]
    have T1 := heap_setCell_same w2 w.heap.size 0 _ 26 (.int .i64 0) R0.out
    have T2 := hid (heap_setCell_same _ w.heap.size 1 _ 26 (.slice none 0 0) T1)
    have B6 := hid ((HB.out.setCell (p := ⟨w.heap.size, 0, none⟩) (by simp) (.int .i64 0)).setCell (p := ⟨w.heap.size, 1, none⟩) (by simp) (.slice none 0 0))
    clear T1 he
    go_wp2_with fail
    refine leaves_cons (f := 60) (args := #[]) (by simp) (by simp [go_sem]) ?_
    refine (guard_idle _).mono ?_
    rintro e u' w'' ⟨rfl, rfl, rfl⟩
    obtain ⟨rfl, rfl⟩ : 0 = RL ∧ [] = RS := Prod.mk.inj ((show (readP zs).getD (0, []) = (0, []) by rw [HN.out]; rfl).symm.trans HR.out)
    obtain rfl : false = ok := (show (readP zs).isSome = false by rw [HN.out]; rfl).symm.trans HK.out
    obtain rfl : 0 = m := HM.out
    exact ⟨_, results_cell_tmp7 Try.results16 _ _ w.heap.size 26 _ (0, 0) _ rfl T2.out Try.underlying26 rfl size_pg, none, 0, rfl, OwnP.nil _ _ _, B6.out⟩
  replace he := Decidable.not_not.1 he
  have HY := hid (HRI.out.1 he)
  rw [decide_eq_true he]
  obtain ⟨rfl, rfl⟩ : L = RL ∧ ss = RS := Prod.mk.inj ((show (readP zs).getD (0, []) = (L, ss) by rw [HY.out]; rfl).symm.trans HR.out)
  obtain rfl : true = ok := (show (readP zs).isSome = true by rw [HY.out]; rfl).symm.trans HK.out
  obtain rfl : k = m := HLK.out.symm.trans HM.out
  have T1 := heap_setCell_same w2 w.heap.size 0 _ 26 (.int .i64 L) R0.out
  have T2 := hid (heap_setCell_same _ w.heap.size 1 _ 26 (.slice a' k c') T1)
  have B6 := hid ((HB.out.setCell (p := ⟨w.heap.size, 0, none⟩) (by simp) (.int .i64 L)).setCell (p := ⟨w.heap.size, 1, none⟩) (by simp) (.slice a' k c'))
  have O6 := hid (HO.out.agree (w' := (w2.setCell ⟨w.heap.size, 0, none⟩ (.int .i64 L)).setCell ⟨w.heap.size, 1, none⟩ (.slice a' k c')) (fun q h1 _ => (heap_set_ne _ _ _ _ _ (by have := LO.out; omega)).trans (heap_set_ne _ _ _ _ _ (by have := LO.out; omega))))
  clear T1 he
  go_wp2_with fail
  refine leaves_cons (f := 60) (args := #[]) (by simp) (by simp [go_sem]) ?_
  refine (guard_idle _).mono ?_
  rintro e u' w'' ⟨rfl, rfl, rfl⟩
  exact ⟨_, results_cell_tmp7 Try.results16 _ _ w.heap.size 26 _ (0, 0) _ rfl T2.out Try.underlying26 rfl size_pg, a', c', rfl, O6.out.mono (by have := LO.out; omega) (by simp only [set_size]; have := S2.out; omega), B6.out⟩
end Go.Proofs.Ytioefplkadpfnaa
/- The contract of the specification's PageRead. Conditions: a slice as Go has them. -/


namespace Go.Proofs.Ytioefplkadpfnaa
open Go.RowKit
set_option maxRecDepth 100000

theorem read_ne {zs : List Int} {acc : List (List Int)} {L : Int} (hs : slotsZ (bodyZ zs 4) = some acc) (hL : numOf zs 0 4 = L) (h : bytesP L acc ≠ zs) : readP zs = none := by
  unfold readP
  split
  · rw [hs]; simp only; rw [hL, if_neg h]
  · rfl
theorem own_len {w : World} {B x y : Nat} {e : TypeId} {s : Nat} {v : Value} {xs : List Value} (o : w.ownsRow B e s v x xs) (h : x = y) : w.ownsRow B e s v y xs := h ▸ o

end Go.Proofs.Ytioefplkadpfnaa
/- The contracts of the draws' cursor: whatever the code, a byte is in 0 .. 255, a number below n is so. For codes of at most 2^21 bytes. -/




namespace Go.Proofs.Ytioefplkadpfnaa
open Go.RowKit

theorem and255 (n : Int) : bits .and .i64 n 255 = n % 256 := by
  have h255 : (BitVec.ofInt 64 255).toNat = 2 ^ 8 - 1 := by decide
  have key : (BitVec.ofInt 64 n &&& BitVec.ofInt 64 255).toNat = (n % ((2 ^ 64 : Nat) : Int)).toNat % 2 ^ 8 := by
    rw [BitVec.toNat_and, BitVec.toNat_ofInt, h255, Nat.and_two_pow_sub_one_eq_mod]
  show IntKind.i64.wrap ((BitVec.ofInt 64 n &&& BitVec.ofInt 64 255).toNat : Nat) = n % 256
  rw [key, IntKind.wrap_i64]
  omega
theorem and30 (n : Int) : bits .and .i64 n 1073741823 = n % 1073741824 := by
  have h255 : (BitVec.ofInt 64 1073741823).toNat = 2 ^ 30 - 1 := by decide
  have key : (BitVec.ofInt 64 n &&& BitVec.ofInt 64 1073741823).toNat = (n % ((2 ^ 64 : Nat) : Int)).toNat % 2 ^ 30 := by
    rw [BitVec.toNat_and, BitVec.toNat_ofInt, h255, Nat.and_two_pow_sub_one_eq_mod]
  show IntKind.i64.wrap ((BitVec.ofInt 64 n &&& BitVec.ofInt 64 1073741823).toNat : Nat) = n % 1073741824
  rw [key, IntKind.wrap_i64]
  omega
theorem grown_setCell (w : World) (g j : Nat) (v : Value) : w.grownBy (w.setCell ⟨g, j, none⟩ v) (some g) :=
  ⟨rfl, rfl, rfl, by simp [World.setCell], fun k _ hk => heap_setCell_other w ⟨g, j, none⟩ k v (fun e => hk (by simp [e]))⟩
theorem grown_still {a b c : World} {row : Option Nat} (h : a.grownBy b row) (k : Still b c) : a.grownBy c row :=
  ⟨k.os.trans h.os, k.tape.trans h.tape, k.output.trans h.output, by rw [k.heap]; exact h.size, fun i hi hr => by rw [k.heap]; exact h.block i hi hr⟩

/-- The cursor's struct in block g, over the code that reads as zs. -/
structure Cur (w : World) (g : Nat) (ad : Option Addr) (n cap : Nat) (zs : List Int) : Prop where
  row : ∃ (i : Nat) (h : Int), i ≤ n ∧ w.heap[g]? = some (.cells #[.slice ad n cap, .int .i64 i, .int .i64 h] 91 (0, 0))
  reads : Reads w ad n zs
  low : ∀ a, ad = some a → 0 < n → a.block < g

theorem Cur.set {w w' : World} {g : Nat} {ad : Option Addr} {n cap : Nat} {zs : List Int} (c : Cur w g ad n cap zs) (hg : w.grownBy w' (some g)) (i : Nat) (h : Int) (hi : i ≤ n)
    (hr : w'.heap[g]? = some (.cells #[.slice ad n cap, .int .i64 i, .int .i64 h] 91 (0, 0))) : Cur w' g ad n cap zs := by
  refine ⟨⟨i, h, hi, hr⟩, ?_, c.low⟩
  by_cases h0 : n = 0
  · exact ⟨c.reads.len, .inl h0, c.reads.bd⟩
  · refine c.reads.other hg (fun a ha => ?_)
    have := c.low a ha (by omega)
    simp; omega

theorem Cur.still {w w' : World} {g : Nat} {ad : Option Addr} {n cap : Nat} {zs : List Int} (c : Cur w g ad n cap zs) (hs : Still w w') : Cur w' g ad n cap zs := by
  obtain ⟨i, h, hi, hr⟩ := c.row
  exact ⟨⟨i, h, hi, by rw [hs.heap]; exact hr⟩, hs.reads c.reads, c.low⟩
theorem Cur.below {w w' : World} {g : Nat} {ad : Option Addr} {n cap : Nat} {zs : List Int} (c : Cur w g ad n cap zs) {B : Nat} (hb : Below B w w') (hB : w.heap.size ≤ B) : Cur w' g ad n cap zs := by
  obtain ⟨i, h, hi, hr⟩ := c.row
  have := (Array.getElem?_eq_some_iff.1 hr).1
  exact ⟨⟨i, h, hi, by rw [hb.block g (by omega)]; exact hr⟩, c.reads.below hb hB, c.low⟩
theorem Cur.other {w w' : World} {g : Nat} {ad : Option Addr} {n cap : Nat} {zs : List Int} (c : Cur w g ad n cap zs) {row : Option Nat} (hg : w.grownBy w' row) (hr : ∀ k, row = some k → g < k) : Cur w' g ad n cap zs := by
  obtain ⟨i, h, hi, hrow⟩ := c.row
  have hlt := (Array.getElem?_eq_some_iff.1 hrow).1
  refine ⟨⟨i, h, hi, by rw [hg.block g hlt (fun e => by have := hr g e.symm; omega)]; exact hrow⟩, ?_, c.low⟩
  by_cases h0 : n = 0
  · exact ⟨c.reads.len, .inl h0, c.reads.bd⟩
  · refine c.reads.other hg (fun a ha e => ?_)
    have h1 := c.low a ha (by omega)
    have h2 := hr a.block e.symm
    omega

set_option maxRecDepth 100000 in
set_option maxHeartbeats 1600000 in
theorem l1Byte {w : World} {g : Nat} {ad : Option Addr} {n cap : Nat} {zs : List Int} (c : Cur w g ad n cap zs) (hn : n ≤ 2097152) :
    Calls Try.prog 81 #[.pointer (some ⟨g, 0, none⟩)] w fun e w' => ∃ x : Int, e = .returned (.int .i64 x) ∧ 0 ≤ x ∧ x ≤ 255 ∧ Cur w' g ad n cap zs ∧ w.grownBy w' (some g) := by
  obtain ⟨i, h, hi, hrow⟩ := c.row
  have c1 : w.cell? ⟨g, 2, none⟩ = some (.int .i64 h) := by rw [cell_of_row w _ _ _ _ _ hrow]; rfl
  have f1 : w.frozen? ⟨g, 2, none⟩ = false := frozen_of_row w _ _ _ _ hrow
  have HW := hid (fun v => heap_setCell_same w g 2 _ 91 v hrow)
  have ha := and255
  clear hrow
  go_enter Try.func81, Try.ntmps81
  go_wp2
  generalize wrap64 (wrap64 (h * 6364136223846793005) + 1442695040888963407) = H
  have R1 : (w.setCell ⟨g, 2, none⟩ (.int .i64 H)).heap[g]? = some (.cells #[.slice ad n cap, .int .i64 i, .int .i64 H] 91 (0, 0)) := HW.out (.int .i64 H)
  have G1 := grown_setCell w g 2 (.int .i64 H)
  have C1 := c.set G1 i H hi R1
  generalize w.setCell ⟨g, 2, none⟩ (.int .i64 H) = w1 at *
  clear HW c1 f1
  have d0 : w1.cell? ⟨g, 0, none⟩ = some (.slice ad n cap) := by rw [cell_of_row w1 _ _ _ _ _ R1]; rfl
  have d1 : w1.cell? ⟨g, 1, none⟩ = some (.int .i64 i) := by rw [cell_of_row w1 _ _ _ _ _ R1]; rfl
  have d2 : w1.cell? ⟨g, 2, none⟩ = some (.int .i64 H) := by rw [cell_of_row w1 _ _ _ _ _ R1]; rfl
  have f1 : w1.frozen? ⟨g, 1, none⟩ = false := frozen_of_row w1 _ _ _ _ R1
  have RR := hid R1
  have hrd := hid C1.reads
  clear R1
  go_quiet (fail)
  have hX0 : 0 ≤ bits BinOp.xor IntKind.i64 (H / 8589934592) (H / 35184372088832) % 256 := by omega
  have hX1 : bits BinOp.xor IntKind.i64 (H / 8589934592) (H / 35184372088832) % 256 ≤ 255 := by omega
  generalize bits BinOp.xor IntKind.i64 (H / 8589934592) (H / 35184372088832) % 256 = X at *
  go_wp2
  go_quiet (fail)
  by_cases hlt : i < n
  · rcases hrd.out.cells with h0 | ⟨b, off, rfl, hc⟩
    · omega
    have d3 := hc i hlt
    have hb := hrd.out.bd i
    generalize zs.getD i 0 = y at d3 hb
    clear hc
    have hlt' : (i : Int) < (n : Int) := by omega
    have hi0 : (0 : Int) ≤ (i : Int) := by omega
    go_wp2
    go_quiet (fail)
    go_wp2
    go_ret
    refine ⟨_, rfl, by omega, by omega, ?_⟩
    generalize hq : w1.drewN _ = w2
    have hs : Still w1 w2 := by rw [← hq]; exact Still.drewN _ _
    have hg := grown_setCell w2 g 1 (.int .i64 ((i : Int) + 1))
    refine ⟨(C1.still hs).set hg (i + 1) H (by omega) ?_, grown_trans (grown_still G1 hs) hg⟩
    have h2 : w2.heap[g]? = some (.cells #[.slice (some ⟨b, off, none⟩) n cap, .int .i64 i, .int .i64 H] 91 (0, 0)) := by rw [hs.heap]; exact RR.out
    exact heap_setCell_same w2 g 1 _ 91 (.int .i64 ((i : Int) + 1)) h2
  · go_wp2
    go_ret
    exact ⟨_, rfl, hX0, hX1, C1.still ((Still.drewN _ _).trans (Still.drewN _ _)), grown_still G1 ((Still.drewN _ _).trans (Still.drewN _ _))⟩

set_option maxRecDepth 100000 in
set_option maxHeartbeats 1600000 in
theorem l1Below {w : World} {g : Nat} {ad : Option Addr} {n cap : Nat} {zs : List Int} (c : Cur w g ad n cap zs) (hn : n ≤ 2097152) (m : Int) (hm : 0 < m) (hm' : m ≤ 1000000) :
    Calls Try.prog 48 #[.pointer (some ⟨g, 0, none⟩), .int .i64 m] w fun e w' => ∃ x : Int, e = .returned (.int .i64 x) ∧ 0 ≤ x ∧ x < m ∧ Cur w' g ad n cap zs ∧ w.grownBy w' (some g) := by
  by_cases h256 : m ≤ 256
  · go_enter Try.func48, Try.ntmps48
    go_wp2_with fail
    refine (l1Byte c hn).mono ?_
    rintro e w1 ⟨x, rfl, hx0, hx1, c1, g1⟩
    have p0 := Int.emod_nonneg x (show m ≠ 0 by omega)
    have p1 := Int.emod_lt_of_pos x hm
    go_wp2_with fail
    go_ret
    exact ⟨_, rfl, p0, p1, c1, g1⟩
  · go_enter Try.func48, Try.ntmps48
    go_wp2_with fail
    refine (l1Byte c hn).mono ?_
    rintro e w1 ⟨x, rfl, hx0, hx1, c1, g1⟩
    go_wp2_with fail
    refine (l1Byte c1 hn).mono ?_
    rintro e w2 ⟨y, rfl, hy0, hy1, c2, g2⟩
    go_wp2_with fail
    refine (l1Byte c2 hn).mono ?_
    rintro e w3 ⟨z, rfl, hz0, hz1, c3, g3⟩
    go_wp2_with fail
    refine (l1Byte c3 hn).mono ?_
    rintro e w4 ⟨u, rfl, hu0, hu1, c4, g4⟩
    have p0 := Int.emod_nonneg (x * 16777216 + y * 65536 + z * 256 + u) (show m ≠ 0 by omega)
    have p1 := Int.emod_lt_of_pos (x * 16777216 + y * 65536 + z * 256 + u) hm
    go_wp2_with fail
    go_ret
    exact ⟨_, rfl, p0, p1, c4, grown_trans (grown_trans (grown_trans g1 g2) g3) g4⟩

theorem new_cur {w : World} {ad : Option Addr} {n : Nat} (cap : Nat) {zs : List Int} (h : Reads w ad n zs) (y : Int) (hl : ∀ a, ad = some a → 0 < n → a.block < w.heap.size) :
    Cur (w.alloc (.cells #[.slice ad n cap, .int .i64 0, .int .i64 y] 91)) w.heap.size ad n cap zs :=
  ⟨⟨0, y, Nat.zero_le _, heap_alloc_new w _⟩, h.below ((Below.refl _ _).alloc (Nat.le_refl _) _) (Nat.le_refl _), hl⟩

set_option maxRecDepth 100000 in
set_option maxHeartbeats 1600000 in
theorem l1New_pos {w : World} {b off n : Nat} (cap : Nat) {zs : List Int} (h : Reads w (some ⟨b, off, none⟩) n zs) (hn : n ≤ 2097152) (hn0 : 0 < n) :
    Calls Try.prog 42 #[.slice (some ⟨b, off, none⟩) n cap] w fun e w' => ∃ g, e = .returned (.pointer (some ⟨g, 0, none⟩)) ∧ w.heap.size ≤ g ∧ Cur w' g (some ⟨b, off, none⟩) n cap zs ∧ Below w.heap.size w w' := by
  obtain ⟨_, _, e, hc⟩ : ∃ b' off', (some ⟨b, off, none⟩ : Option Addr) = some ⟨b', off', none⟩ ∧ ∀ i, i < n → w.cell? ⟨b', off' + i, none⟩ = some (.int .u8 (zs.getD i 0)) := by
    rcases h.cells with h0 | h0
    · omega
    · exact h0
  cases e
  have ha := and30
  have HC := hid hc
  have hbw := World.block_lt_of_cell? w _ (hc 0 hn0)
  clear hc
  go_enter Try.func42, Try.ntmps42
  go_wp2
  go_loop [3, 4] (fun s i => ∃ (k : Nat) (y : Int), k ≤ n ∧ i = .int .i64 k ∧ s = .int .i64 y ∧ 0 ≤ y ∧ y ≤ 10000000000) (fun _ i => n - (intOf i).toNat)
  case atStart => exact ⟨0, _, by omega, rfl, rfl, by omega, by omega⟩
  case round =>
    obtain ⟨k, y, hk, rfl, rfl, hy0, hy1⟩ := hrel
    by_cases hlt : k < n ∧ k < 4000
    · obtain ⟨h1, h2⟩ := hlt
      have hcell := HC.out k h1
      have hb := h.bd k
      generalize zs.getD k 0 = c at hcell hb
      go_wp2
      go_round
      case rel => exact ⟨k + 1, _, by omega, by go_num, rfl, by omega, by omega⟩
      case measure => simp [intOf]; omega
    · by_cases h1 : k < n
      · have h2 : ¬ k < 4000 := by omega
        go_wp2
        go_ret
        exact ⟨w.heap.size, rfl, Nat.le_refl _, new_cur cap h y (fun a ha _ => by cases ha; exact hbw), (Below.refl _ _).alloc (Nat.le_refl _) _⟩
      · go_wp2
        go_ret
        exact ⟨w.heap.size, rfl, Nat.le_refl _, new_cur cap h y (fun a ha _ => by cases ha; exact hbw), (Below.refl _ _).alloc (Nat.le_refl _) _⟩

set_option maxRecDepth 100000 in
set_option maxHeartbeats 1600000 in
theorem l1New_zero {w : World} {ad : Option Addr} (cap : Nat) {zs : List Int} (h : Reads w ad 0 zs) :
    Calls Try.prog 42 #[.slice ad 0 cap] w fun e w' => ∃ g, e = .returned (.pointer (some ⟨g, 0, none⟩)) ∧ w.heap.size ≤ g ∧ Cur w' g ad 0 cap zs ∧ Below w.heap.size w w' := by
  go_enter Try.func42, Try.ntmps42
  go_wp2
  go_loop [3, 4] (fun s i => i = .int .i64 (0 : Nat) ∧ s = .int .i64 25252) (fun _ _ => 0)
  case atStart => exact ⟨rfl, rfl⟩
  case round =>
    obtain ⟨rfl, rfl⟩ := hrel
    go_wp2
    go_ret
    exact ⟨w.heap.size, rfl, Nat.le_refl _, new_cur cap h 25252 (fun a _ hp => absurd hp (Nat.lt_irrefl _)), (Below.refl _ _).alloc (Nat.le_refl _) _⟩

theorem l1New {w : World} {ad : Option Addr} {n : Nat} (cap : Nat) {zs : List Int} (h : Reads w ad n zs) (hn : n ≤ 2097152) :
    Calls Try.prog 42 #[.slice ad n cap] w fun e w' => ∃ g, e = .returned (.pointer (some ⟨g, 0, none⟩)) ∧ w.heap.size ≤ g ∧ Cur w' g ad n cap zs ∧ Below w.heap.size w w' := by
  by_cases h0 : n = 0
  · subst h0; exact l1New_zero cap h
  · obtain ⟨b, off, rfl⟩ := h.pos (by omega)
    exact l1New_pos cap h hn (by omega)

end Go.Proofs.Ytioefplkadpfnaa
/- The contract of the draw of a yes or no. For codes of at most 2^21 bytes. -/

namespace Go.Proofs.Ytioefplkadpfnaa
open Go.RowKit

theorem grown_new {a b c : World} {g : Nat} {row : Option Nat} (h : a.grownBy b (some g)) (k : b.grownBy c row) (hr : ∀ r, row = some r → a.heap.size ≤ r) : a.grownBy c (some g) :=
  ⟨k.os.trans h.os, k.tape.trans h.tape, k.output.trans h.output, Nat.le_trans h.size k.size, fun i hi hne => (k.block i (Nat.lt_of_lt_of_le hi h.size) (fun e => by have := hr i e.symm; omega)).trans (h.block i hi hne)⟩
theorem bd_snoc {L : List Int} {y : Int} (hb : ∀ i, 0 ≤ L.getD i 0 ∧ L.getD i 0 ≤ 255) (h0 : 0 ≤ y) (h1 : y ≤ 255) : ∀ i, 0 ≤ (L ++ [y]).getD i 0 ∧ (L ++ [y]).getD i 0 ≤ 255 := by
  intro i
  by_cases h : i < L.length
  · have := hb i
    rwa [List.getD_eq_getElem?_getD, List.getElem?_append_left h, ← List.getD_eq_getElem?_getD]
  · rw [List.getD_eq_getElem?_getD, List.getElem?_append_right (by omega)]
    by_cases e : i - L.length = 0
    · rw [e]; simpa using ⟨h0, h1⟩
    · rw [List.getElem?_eq_none (by simp; omega)]; simp
/-- A slice's length, for a measure. -/
def lenOf : Value → Nat | .slice _ n _ => n | _ => 0
theorem own_base {w : World} {base base' : Nat} {e : TypeId} {s : Nat} {v : Value} {n : Nat} {xs : List Value} (h : w.ownsRow base e s v n xs) (hb : base' ≤ base) : w.ownsRow base' e s v n xs := by
  refine ⟨h.1, ?_⟩
  rcases h.2 with h2 | ⟨g, cap, cur, hv, hg, r⟩
  · exact .inl h2
  · exact .inr ⟨g, cap, cur, hv, Nat.le_trans hb hg, r⟩
theorem Cur.lt {w : World} {g : Nat} {ad : Option Addr} {n cap : Nat} {zs : List Int} (c : Cur w g ad n cap zs) : g < w.heap.size := by
  obtain ⟨i, h, _, hr⟩ := c.row
  exact (Array.getElem?_eq_some_iff.1 hr).1
theorem Cur.alloc {w : World} {g : Nat} {ad : Option Addr} {n cap : Nat} {zs : List Int} (c : Cur w g ad n cap zs) (o : Obj) : Cur (w.alloc o) g ad n cap zs :=
  c.below ((Below.refl w.heap.size w).alloc (Nat.le_refl _) o) (Nat.le_refl _)

set_option maxRecDepth 100000 in
set_option maxHeartbeats 1600000 in
theorem l1Once {w : World} {g : Nat} {ad : Option Addr} {n cap : Nat} {zs : List Int} (c : Cur w g ad n cap zs) (hn : n ≤ 2097152) (m : Int) (hm : 0 < m) (hm' : m ≤ 1000000) :
    Calls Try.prog 44 #[.pointer (some ⟨g, 0, none⟩), .int .i64 m] w fun e w' => ∃ b : Bool, e = .returned (.bool b) ∧ Cur w' g ad n cap zs ∧ w.grownBy w' (some g) := by
  go_enter Try.func44, Try.ntmps44
  go_wp2_with fail
  refine (l1Below c hn m hm hm').mono ?_
  rintro e w1 ⟨x, rfl, hx0, hx1, c1, g1⟩
  generalize hb : (x == 0) = b
  go_wp2_with fail
  go_ret
  exact ⟨_, rfl, c1, g1⟩

end Go.Proofs.Ytioefplkadpfnaa
