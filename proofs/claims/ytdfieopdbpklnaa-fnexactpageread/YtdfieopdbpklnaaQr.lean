/- A page out of its bytes, plain. No program, no conditions. -/
import Derived.Test.YtdfieopdbpklnaaPq
import Derived.Test.YtdfieopdbpklnaaVal
namespace Go.Proofs.Ytdfieopdbpklnaa

def secB (zs : List Int) (k : Nat) : List Int := (zs.drop (64 * k + 4)).take 60
def bodyZ (zs : List Int) : Nat → List Int
  | 0 => []
  | k + 1 => bodyZ zs k ++ secB zs k
def lenB (body : List Int) (j : Nat) : Nat := (body.getD j 0).toNat
def cutA (body : List Int) : Nat → Option (List (List Int) × Nat)
  | 0 => some ([], 1 + lenB body 0)
  | j + 1 => match cutA body j with
    | none => none
    | some (acc, p) => if p + lenB body (1 + j) ≤ body.length then some (acc ++ [(body.drop p).take (lenB body (1 + j))], p + lenB body (1 + j)) else none
def slotsZ (body : List Int) : Option (List (List Int)) := if 1 + lenB body 0 ≤ body.length then (cutA body (lenB body 0)).map (·.1) else none
def readP (zs : List Int) : Option (Int × List (List Int)) :=
  if zs.length = 256 then
    match slotsZ (bodyZ zs 4) with
    | none => none
    | some ss => if bytesP (numOf zs 0 4) ss = zs then some (numOf zs 0 4, ss) else none
  else none

theorem secB_len {zs : List Int} {k : Nat} (h : 256 ≤ zs.length) (hk : k < 4) : (secB zs k).length = 60 := by simp [secB]; omega
theorem bodyZ_len {zs : List Int} (h : 256 ≤ zs.length) : ∀ k, k ≤ 4 → (bodyZ zs k).length = 60 * k
  | 0, _ => rfl
  | k + 1, hk => by
    have := bodyZ_len h k (by omega)
    simp only [bodyZ, List.length_append, this, secB_len h (by omega : k < 4)]
    omega
theorem bodyZ_bd {zs : List Int} (h : bdZ zs) : ∀ k, bdZ (bodyZ zs k)
  | 0 => fun i => by simp [bodyZ]
  | k + 1 => (bodyZ_bd h k).app (h.sub fun x hx => List.mem_of_mem_drop (List.mem_of_mem_take hx))
theorem cutA_some {body : List Int} {j : Nat} {acc : List (List Int)} {p : Nat} (h : cutA body j = some (acc, p)) (hp : p + lenB body (1 + j) ≤ body.length) : cutA body (j + 1) = some (acc ++ [(body.drop p).take (lenB body (1 + j))], p + lenB body (1 + j)) := by
  simp only [cutA, h, if_pos hp]
theorem cutA_stop {body : List Int} {j : Nat} {acc : List (List Int)} {p : Nat} (h : cutA body j = some (acc, p)) (hp : ¬ p + lenB body (1 + j) ≤ body.length) : cutA body (j + 1) = none := by
  simp only [cutA, h, if_neg hp]
theorem cutA_none {body : List Int} {j : Nat} (h : cutA body j = none) : ∀ k, j ≤ k → cutA body k = none := by
  intro k hk
  induction hk with
  | refl => exact h
  | step _ ih => simp only [cutA, ih]
theorem slotsZ_yes {body : List Int} {acc : List (List Int)} {p : Nat} (h : 1 + lenB body 0 ≤ body.length) (hc : cutA body (lenB body 0) = some (acc, p)) : slotsZ body = some acc := by
  unfold slotsZ; rw [if_pos h, hc]; rfl
theorem slotsZ_no1 {body : List Int} (h : ¬ 1 + lenB body 0 ≤ body.length) : slotsZ body = none := by unfold slotsZ; rw [if_neg h]
theorem slotsZ_no2 {body : List Int} {j : Nat} (hj : j ≤ lenB body 0) (hc : cutA body j = none) : slotsZ body = none := by
  unfold slotsZ
  split
  · rw [cutA_none hc _ hj]; rfl
  · rfl

/-- Sectors of a page's bytes. -/
theorem secs_split (L : Int) (body : List Int) (hp : (putL L 4).length = 4) (hb : body.length = 240) (k : Nat) (hk : k < 4) :
    ((secsP L body 4).drop (64 * k)).take 4 = putL L 4 ∧ ((secsP L body 4).drop (64 * k + 4)).take 60 = (body.drop (60 * k)).take 60 := by
  have hs := secsP_len hp hb
  have h64 : ∀ k, k < 4 → (putL L 4 ++ (body.drop (60 * k)).take 60).length = 64 := by
    intro k hk
    rw [List.length_append, hp, List.length_take, List.length_drop, hb]; omega
  have key : ∀ j, j ≤ 4 → k < j → ((secsP L body j).drop (64 * k)).take 64 = putL L 4 ++ (body.drop (60 * k)).take 60 := by
    intro j
    induction j with
    | zero => intro _ h; omega
    | succ j ih =>
      intro hj hkj
      have hsj := hs j (by omega)
      by_cases e : k = j
      · subst e
        simp only [secsP]
        rw [List.drop_append_of_le_length (by omega), List.drop_eq_nil_of_le (by omega), List.nil_append]
        exact List.take_of_length_le (by rw [h64 k hk]; exact Nat.le_refl _)
      · have := ih (by omega) (by omega)
        simp only [secsP]
        rw [List.drop_append_of_le_length (by omega), List.take_append_of_le_length (by rw [List.length_drop, hsj]; omega)]
        exact this
  have h4 := key 4 (by omega) hk
  constructor
  · have e1 : ((secsP L body 4).drop (64 * k)).take 4 = (((secsP L body 4).drop (64 * k)).take 64).take 4 := by rw [List.take_take]; rfl
    rw [e1, h4, List.take_append_of_le_length (by omega), List.take_of_length_le (by omega)]
  · have e2 : ((secsP L body 4).drop (64 * k + 4)).take 60 = (((secsP L body 4).drop (64 * k)).take 64).drop 4 := by rw [List.drop_take, List.drop_drop]
    rw [e2, h4, List.drop_append_of_le_length (by omega), List.drop_eq_nil_of_le (by omega), List.nil_append]
theorem pieces (body : List Int) (hb : body.length = 240) (zs : List Int) (h : ∀ k, k < 4 → secB zs k = (body.drop (60 * k)).take 60) : bodyZ zs 4 = body := by
  have key : ∀ k, k ≤ 4 → bodyZ zs k = body.take (60 * k) := by
    intro k
    induction k with
    | zero => intro _; simp [bodyZ]
    | succ k ih =>
      intro hk
      simp only [bodyZ]
      rw [ih (by omega), h k (by omega), show 60 * (k + 1) = 60 * k + 60 by omega, List.take_add]
  rw [key 4 (by omega), List.take_of_length_le (by omega)]
theorem body_back {L : Int} {ss : List (List Int)} (h : okP L ss = true) : bodyZ (bytesP L ss) 4 = bodyP ss := by
  refine pieces _ (bodyP_len h) _ fun k hk => ?_
  rw [bytesP_yes h]
  exact (secs_split L (bodyP ss) (putL4 L (okP_of h).l0 (okP_of h).l1).1 (bodyP_len h) k hk).2

theorem val_dig7 (f : Nat → Int) (n size : Nat) (hf : ∀ j, j < size → f j = ((sh n j : Nat) : Int) % 256) (h0 : sh n size = 0) : ∀ c k, k + c = size → val f k c = ((sh n k : Nat) : Int)
  | 0, k, h => by
    obtain rfl : k = size := by omega
    simp [val, h0]
  | c + 1, k, h => by
    have ih := val_dig7 f n size hf h0 c (k + 1) (by omega)
    simp only [val]
    rw [ih, hf k (by omega), sh_succ]
    have := Nat.div_add_mod (sh n k) 256
    omega
theorem num_back (n : Nat) (h : n ≤ 1000000) (zs : List Int) (q : Nat) (hq : (zs.drop q).take 4 = dig n 4) : numOf zs q 4 = n ∧ numOf ((zs.drop q).take 4) 0 4 = n := by
  have h0 : sh n 4 = 0 := by
    simp only [sh]
    exact Nat.div_eq_of_lt (by have : (256 : Nat) ^ 4 = 4294967296 := by decide
                               omega)
  have hl : q + 4 ≤ zs.length := by
    have := congrArg List.length hq
    rw [dig_length] at this
    simp at this; omega
  have hj : ∀ j, j < 4 → zs.getD (q + j) 0 = ((sh n j : Nat) : Int) % 256 := by
    intro j hj
    rw [← dig_at n 4 j hj, ← hq]
    simp [List.getD, hj]
  constructor
  · have v : val (byteFrom zs q) 0 4 = n := by
      have := val_dig7 (byteFrom zs q) n 4 (fun j h => hj j h) h0 4 0 rfl
      rwa [sh_zero] at this
    have := (num_yes zs q 4 (by omega) (by omega) hl (by rw [v]; omega)).2
    rw [v] at this
    exact this
  · have v : val (byteFrom ((zs.drop q).take 4) 0) 0 4 = n := by
      have := val_dig7 (byteFrom ((zs.drop q).take 4) 0) n 4 (fun j h => by unfold byteFrom; rw [hq, Nat.zero_add, dig_at n 4 j h]) h0 4 0 rfl
      rwa [sh_zero] at this
    have := (num_yes ((zs.drop q).take 4) 0 4 (by omega) (by omega) (by rw [hq, dig_length]; omega) (by rw [v]; omega)).2
    rw [v] at this
    exact this
theorem bytes_ok {L : Int} {ss : List (List Int)} {zs : List Int} (h : bytesP L ss = zs) (hz : zs ≠ []) : okP L ss = true := by
  cases e : okP L ss with
  | true => rfl
  | false => rw [bytesP_no e] at h; exact absurd h.symm hz
theorem bytes_num {L : Int} {ss : List (List Int)} (h : okP L ss = true) (k : Nat) (hk : k < 4) : numOf (bytesP L ss) ((64 * k : Nat) : Int) 4 = L ∧ numOf (((bytesP L ss).drop (64 * k)).take 4) 0 4 = L := by
  have o := okP_of h
  have p4 := putL4 L o.l0 o.l1
  have := num_back L.toNat (by have := o.l1; omega) (bytesP L ss) (64 * k) (by rw [bytesP_yes h, (secs_split L (bodyP ss) p4.1 (bodyP_len h) k hk).1, p4.2])
  have e := Int.toNat_of_nonneg o.l0
  rw [e] at this
  exact this
end Go.Proofs.Ytdfieopdbpklnaa
