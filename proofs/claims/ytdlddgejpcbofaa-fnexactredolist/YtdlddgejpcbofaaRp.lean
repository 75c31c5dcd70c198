/- Records, plain: what is right, their bytes, what stands at a place, scans, logs. No conditions. -/
import Derived.Test.YtdlddgejpcbofaaFat
import Derived.Test.YtdlddgejpcbofaaDp
namespace Go.Proofs.Ytdlddgejpcbofaa

structure Rc where
  K : Int
  L : Int
  X : Int
  P : Int
  S : Int
  D : List Int
def r0 : Rc := ⟨0, 0, 0, 0, 0, []⟩
def okRn (K L X P S : Int) (n : Nat) : Bool := decide (1 ≤ L ∧ L ≤ 1000000 ∧
  ((K = 1 ∧ X = 0 ∧ (0 ≤ P ∧ P ≤ 15) ∧ S = 0 ∧ n = 256) ∨
   (K = 2 ∧ (1 ≤ X ∧ X ≤ 400) ∧ (0 ≤ P ∧ P ≤ 15) ∧ (0 ≤ S ∧ S ≤ 15) ∧ 1 ≤ n ∧ n ≤ 92) ∨
   (K = 3 ∧ (1 ≤ X ∧ X ≤ 400) ∧ (0 ≤ P ∧ P ≤ 15) ∧ (0 ≤ S ∧ S ≤ 15) ∧ n = 0) ∨
   (K = 4 ∧ X = 0 ∧ (0 ≤ P ∧ P ≤ 15) ∧ (0 ≤ S ∧ S ≤ 15) ∧ n = 0) ∨
   (K = 5 ∧ (1 ≤ X ∧ X ≤ 400) ∧ P = 0 ∧ S = 0 ∧ n = 0)))
def okR (r : Rc) : Bool := okRn r.K r.L r.X r.P r.S r.D.length
theorem okRn_bd {K L X P S : Int} {n : Nat} (h : okRn K L X P S n = true) : (1 ≤ K ∧ K ≤ 5) ∧ (1 ≤ L ∧ L ≤ 1000000) ∧ (0 ≤ X ∧ X ≤ 400) ∧ (0 ≤ P ∧ P ≤ 15) ∧ (0 ≤ S ∧ S ≤ 15) ∧ n ≤ 256 := by
  have := of_decide_eq_true (show decide _ = true from h)
  omega
def bodyR (r : Rc) : List Int := putL r.L 4 ++ putL r.X 4 ++ putL r.P 2 ++ putL r.S 2 ++ r.D
def bytesR (r : Rc) : List Int := if okR r = true then frameOf r.K (bodyR r) else []
theorem bytesR_no {r : Rc} (h : okR r = false) : bytesR r = [] := by unfold bytesR; rw [if_neg (by rw [h]; decide)]
theorem bytesR_yes {r : Rc} (h : okR r = true) : bytesR r = frameOf r.K (bodyR r) := by unfold bytesR; rw [if_pos h]
def bdL (zs : List Int) : Prop := ∀ i, 0 ≤ zs.getD i 0 ∧ zs.getD i 0 ≤ 255
theorem bodyR_bd {r : Rc} (h : bdL r.D) : bdL (bodyR r) :=
  bd_append (bd_append (bd_append (bd_append (putL_bd _ _) (putL_bd _ _)) (putL_bd _ _)) (putL_bd _ _)) h
theorem bytesR_bd {r : Rc} (h : bdL r.D) : bdL (bytesR r) := by
  unfold bytesR; split
  · exact frameOf_bd _ _ (bodyR_bd h)
  · intro i; simp
theorem bytesR_length {r : Rc} (h : bdL r.D) : (bytesR r).length ≤ 1007 := by
  unfold bytesR; split
  · exact frameOf_length _ _ (bodyR_bd h)
  · simp
theorem bodyR_length {r : Rc} (h : okR r = true) : (bodyR r).length = 12 + r.D.length := by
  obtain ⟨_, h2, h3, h4, h5, _⟩ := okRn_bd h
  obtain ⟨p, hp⟩ := Int.eq_ofNat_of_zero_le h4.1
  obtain ⟨s, hs⟩ := Int.eq_ofNat_of_zero_le h5.1
  unfold bodyR
  rw [hp, hs]
  have e1 := putL_four r.L (by omega) (by omega)
  have e2 := putL_four r.X (by omega) (by omega)
  have e3 := putL_two p (by omega)
  have e4 := putL_two s (by omega)
  simp only [List.length_append] at *
  omega
theorem bytesR_len {r : Rc} (h : okR r = true) (hb : bdL r.D) : (bytesR r).length = 19 + r.D.length := by
  have hl := bodyR_length h
  obtain ⟨h1, _, _, _, _, h6⟩ := okRn_bd h
  rw [bytesR_yes h, frameOf_yes _ _ ⟨h1.1, by omega, by omega⟩, frameL_length _ _ (by omega) (by omega) (by omega) (bodyR_bd hb), hl]
  omega

def recOf (kind : Int) (body : List Int) : Rc := ⟨kind, numOf body 0 4, numOf body 4 4, numOf body 8 2, numOf body 10 2, body.drop 12⟩
structure RA where
  r : Rc
  n : Int
  c : Int
def raOf (zs : List Int) (at' : Int) : RA :=
  if (faOf zs at').c = 0 then (if 12 ≤ (faOf zs at').b.length ∧ okR (recOf (faOf zs at').k (faOf zs at').b) = true then ⟨recOf (faOf zs at').k (faOf zs at').b, (faOf zs at').n, 0⟩ else ⟨r0, 0, 4⟩)
  else ⟨r0, 0, (faOf zs at').c⟩
theorem ra_code {zs : List Int} {at' : Int} (h : (faOf zs at').c ≠ 0) : raOf zs at' = ⟨r0, 0, (faOf zs at').c⟩ := by unfold raOf; rw [if_neg h]
theorem ra_form {zs : List Int} {at' : Int} (h : (faOf zs at').c = 0) (h2 : ¬ (12 ≤ (faOf zs at').b.length ∧ okR (recOf (faOf zs at').k (faOf zs at').b) = true)) : raOf zs at' = ⟨r0, 0, 4⟩ := by unfold raOf; rw [if_pos h, if_neg h2]
theorem ra_well {zs : List Int} {at' : Int} (h : (faOf zs at').c = 0) (h2 : 12 ≤ (faOf zs at').b.length ∧ okR (recOf (faOf zs at').k (faOf zs at').b) = true) : raOf zs at' = ⟨recOf (faOf zs at').k (faOf zs at').b, (faOf zs at').n, 0⟩ := by unfold raOf; rw [if_pos h, if_pos h2]

theorem bd_drop {zs : List Int} (h : bdL zs) (k : Nat) : bdL (zs.drop k) := by
  intro i; have := h (k + i); simpa using this
theorem sub_bd {zs : List Int} (h : bdL zs) (a m : Nat) : bdL (sub zs a m) := by
  intro i
  by_cases hi : i < m
  · rw [sub_at _ _ _ _ hi]; exact h _
  · have : (sub zs a m).length ≤ i := by simp [sub]; omega
    rw [List.getD_eq_getElem?_getD, List.getElem?_eq_none this]; simp
theorem fa_b_bd {zs : List Int} (h : bdL zs) (at' : Int) : bdL (faOf zs at').b := by
  unfold faOf
  split
  · intro i; simp
  split
  · intro i; simp
  split
  · intro i; simp
  split
  · intro i; simp
  exact sub_bd h _ _
theorem fa_b_len (zs : List Int) (at' : Int) : (faOf zs at').b.length ≤ 1000 := by
  unfold faOf
  split
  · simp
  split
  · simp
  rename_i h
  split
  · simp
  split
  · simp
  simp only [sub, List.length_take]
  omega
theorem fa_c_bd (zs : List Int) (at' : Int) : 0 ≤ (faOf zs at').c ∧ (faOf zs at').c ≤ 3 := by
  unfold faOf
  split
  · simp
  split
  · simp
  split
  · simp
  split
  · simp
  simp
theorem fa_c_pos {zs : List Int} {at' : Int} (h : (faOf zs at').c = 0) (hz : bdL zs) : zs.length ≤ 65536 ∧ 0 ≤ at' ∧ at' + 7 ≤ (faOf zs at').n ∧ (faOf zs at').n ≤ zs.length ∧ 1 ≤ (faOf zs at').k ∧ (faOf zs at').k ≤ 255 := by
  unfold faOf at h ⊢
  split at h
  · simp at h
  rename_i h1
  split at h
  · simp at h
  rename_i h2
  split at h
  · simp at h
  rename_i h3
  split at h
  · simp at h
  rename_i h4
  rw [if_neg h1, if_neg h2, if_neg h3, if_neg h4]
  have hk := hz at'.toNat
  obtain ⟨A, rfl⟩ := Int.eq_ofNat_of_zero_le (show 0 ≤ at' by omega)
  have hn := (num_two zs hz (A + 1) (by simp at h1; omega)).2
  simp only [Int.toNat_natCast] at *
  rw [show ((A + 1 : Nat) : Int) = (A : Int) + 1 by omega] at hn
  refine ⟨by omega, by omega, by omega, by omega, by omega, by omega⟩
theorem ra_r_bd {zs : List Int} (h : bdL zs) (at' : Int) : bdL (raOf zs at').r.D := by
  unfold raOf
  split
  · split
    · exact bd_drop (fa_b_bd h _) _
    · intro i; simp [r0]
  · intro i; simp [r0]
theorem ra_r_len (zs : List Int) (at' : Int) : (raOf zs at').r.D.length ≤ 1000 := by
  unfold raOf
  have := fa_b_len zs at'
  split
  · split
    · simp [recOf]; omega
    · simp [r0]
  · simp [r0]
theorem ra_pos {zs : List Int} {at' : Int} (h : (raOf zs at').c = 0) (hz : bdL zs) : zs.length ≤ 65536 ∧ 0 ≤ at' ∧ at' + 7 ≤ (raOf zs at').n ∧ (raOf zs at').n ≤ zs.length ∧ okR (raOf zs at').r = true := by
  by_cases h1 : (faOf zs at').c = 0
  · by_cases h2 : 12 ≤ (faOf zs at').b.length ∧ okR (recOf (faOf zs at').k (faOf zs at').b) = true
    · rw [ra_well h1 h2]
      obtain ⟨a, b, c, d, _⟩ := fa_c_pos h1 hz
      exact ⟨a, b, c, d, h2.2⟩
    · rw [ra_form h1 h2] at h; simp at h
  · rw [ra_code h1] at h; exact absurd h h1
theorem ra_n_bd {zs : List Int} (hz : bdL zs) (at' : Int) : 0 ≤ (raOf zs at').n ∧ (raOf zs at').n ≤ 65536 ∧ 0 ≤ (raOf zs at').c ∧ (raOf zs at').c ≤ 4 := by
  have hc := fa_c_bd zs at'
  by_cases h1 : (faOf zs at').c = 0
  · by_cases h2 : 12 ≤ (faOf zs at').b.length ∧ okR (recOf (faOf zs at').k (faOf zs at').b) = true
    · rw [ra_well h1 h2]
      obtain ⟨a, b, c, d, _⟩ := fa_c_pos h1 hz
      simp only; omega
    · rw [ra_form h1 h2]; simp
  · rw [ra_code h1]; simp only; omega
end Go.Proofs.Ytdlddgejpcbofaa
