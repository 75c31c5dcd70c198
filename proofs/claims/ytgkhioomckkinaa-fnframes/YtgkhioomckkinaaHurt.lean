/- Plain: a frame comes back; cut it is none; with one byte of kind, body or sum changed it is none. No conditions beyond the limits. -/
import Derived.Test.YtgkhioomckkinaaFat
namespace Go.Proofs.Ytgkhioomckkinaa
open Go.RowKit

/-! The sum tells two texts apart that differ in one byte. -/
theorem xor_cancel {a b c : Nat} (h : a ^^^ c = b ^^^ c) : a = b := by
  have := congrArg (fun x => x ^^^ c) h
  simpa [Nat.xor_assoc] using this
theorem st1_inj (x y : Nat) (hx : x < 4294967296) (hy : y < 4294967296) (h : st1 x = st1 y) : x = y := by
  have mixed : ∀ u v : Nat, u < 4294967296 → v < 4294967296 → u % 2 = 1 → ¬ v % 2 = 1 → st1 u ≠ st1 v := by
    intro u v hu hv h1 h2 e
    unfold st1 at e
    rw [if_pos h1, if_neg h2] at e
    have e2 : u / 2 ^^^ v / 2 = 3988292384 := by
      rw [← e, ← Nat.xor_assoc, Nat.xor_self, Nat.zero_xor]
    have : u / 2 ^^^ v / 2 < 2 ^ 31 := Nat.xor_lt_two_pow (by omega) (by omega)
    omega
  by_cases h1 : x % 2 = 1 <;> by_cases h2 : y % 2 = 1
  · unfold st1 at h
    rw [if_pos h1, if_pos h2] at h
    have := xor_cancel h
    omega
  · exact absurd h (mixed x y hx hy h1 h2)
  · exact absurd h.symm (mixed y x hy hx h2 h1)
  · unfold st1 at h
    rw [if_neg h1, if_neg h2] at h
    omega
theorem stN_inj (k x y : Nat) (hx : x < 4294967296) (hy : y < 4294967296) (h : stN k x = stN k y) : x = y := by
  induction k with
  | zero => exact h
  | succ k ih =>
    rw [stN, stN] at h
    exact ih (st1_inj _ _ (stN_lt k x hx) (stN_lt k y hy) h)
theorem stp_left (x y : Nat) (c : Int) (hx : x < 4294967296) (hy : y < 4294967296) (hc : c ≤ 255) (h : stp x c = stp y c) : x = y :=
  xor_cancel (stN_inj 8 _ _ (xor_lt32 _ _ hx (by omega)) (xor_lt32 _ _ hy (by omega)) h)
theorem stp_right (x : Nat) (c d : Int) (hx : x < 4294967296) (hc0 : 0 ≤ c) (hc : c ≤ 255) (hd0 : 0 ≤ d) (hd : d ≤ 255) (h : stp x c = stp x d) : c = d := by
  have e := stN_inj 8 _ _ (xor_lt32 _ _ hx (by omega)) (xor_lt32 _ _ hx (by omega)) h
  rw [Nat.xor_comm x, Nat.xor_comm x] at e
  have := xor_cancel e
  omega
theorem sumL_left (l : List Int) (hl : ∀ c ∈ l, c ≤ 255) : ∀ x y, x < 4294967296 → y < 4294967296 → sumL x l = sumL y l → x = y := by
  induction l with
  | nil => intro x y _ _ h; exact h
  | cons a r ih =>
    intro x y hx hy h
    unfold sumL at h
    rw [List.foldl_cons, List.foldl_cons] at h
    have ha := hl a (by simp)
    have hs : ∀ z, z < 4294967296 → stp z a < 4294967296 := fun z hz => stN_lt _ _ (xor_lt32 _ _ hz (by omega))
    exact stp_left x y a hx hy ha (ih (fun c hc => hl c (by simp [hc])) _ _ (hs x hx) (hs y hy) h)
theorem bd_mem {zs : List Int} (hz : ∀ i, 0 ≤ zs.getD i 0 ∧ zs.getD i 0 ≤ 255) : ∀ c ∈ zs, 0 ≤ c ∧ c ≤ 255 := by
  intro c hc
  obtain ⟨i, hi, rfl⟩ := List.getElem_of_mem hc
  have := hz i
  rwa [List.getD_eq_getElem?_getD, List.getElem?_eq_getElem hi] at this
theorem crc_set (H : List Int) (hH : ∀ i, 0 ≤ H.getD i 0 ∧ H.getD i 0 ≤ 255) (hl : H.length ≤ 65536) (i : Nat) (hi : i < H.length) (c : Int) (hc0 : 0 ≤ c) (hc : c ≤ 255) (hne : c ≠ H.getD i 0) : crcOf (H.set i c) ≠ crcOf H := by
  intro e
  unfold crcOf at e
  rw [List.length_set, if_neg (by omega), if_neg (by omega)] at e
  have e1 : sumTo (H.set i c) H.length = sumTo H H.length := xor_cancel (c := 4294967295) (by omega)
  unfold sumTo at e1
  rw [List.take_of_length_le (by simp), List.take_of_length_le (Nat.le_refl _)] at e1
  have m := bd_mem hH
  have hA : ∀ z ∈ H.take i, z ≤ 255 := fun z hz => (m z (List.mem_of_mem_take hz)).2
  have hB : ∀ z ∈ H.drop (i + 1), z ≤ 255 := fun z hz => (m z (List.mem_of_mem_drop hz)).2
  have d1 : H.set i c = H.take i ++ (c :: H.drop (i + 1)) := by rw [List.set_eq_take_append_cons_drop, if_pos hi]
  have d2 : H = H.take i ++ (H.getD i 0 :: H.drop (i + 1)) := by
    rw [List.getD_eq_getElem?_getD, List.getElem?_eq_getElem hi, Option.getD_some, ← List.drop_eq_getElem_cons hi, List.take_append_drop]
  generalize hy : H.getD i 0 = y at hne d2
  have hyb := hH i
  rw [hy] at hyb
  generalize H.take i = A at *
  generalize H.drop (i + 1) = B at *
  rw [d1, d2] at e1
  unfold sumL at e1
  rw [List.foldl_append, List.foldl_append, List.foldl_cons, List.foldl_cons] at e1
  have hs : List.foldl stp 4294967295 A < 4294967296 := sumL_lt A hA _ (by omega)
  generalize List.foldl stp 4294967295 A = s at *
  have hst : ∀ z : Int, z ≤ 255 → stp s z < 4294967296 := fun z hz => stN_lt _ _ (xor_lt32 _ _ hs (by omega))
  exact hne (stp_right s c y hs hc0 hc hyb.1 hyb.2 (sumL_left B hB _ _ (hst c hc) (hst y hyb.2) e1))

/-! Numbers read. -/
theorem val_congr (f g : Nat → Int) : ∀ c k, (∀ j, k ≤ j → j < k + c → f j = g j) → val f k c = val g k c
  | 0, _, _ => rfl
  | c + 1, k, h => by
    rw [show val f k (c + 1) = val f (k + 1) c * 256 + f k from rfl, show val g k (c + 1) = val g (k + 1) c * 256 + g k from rfl,
      val_congr f g c (k + 1) (fun j h1 h2 => h j (by omega) (by omega)), h k (Nat.le_refl _) (by omega)]
theorem val_ext (f g : Nat → Int) (hf : ∀ j, 0 ≤ f j ∧ f j ≤ 255) (hg : ∀ j, 0 ≤ g j ∧ g j ≤ 255) : ∀ c k, val f k c = val g k c → ∀ j, k ≤ j → j < k + c → f j = g j
  | 0, k, _, j, h1, h2 => by omega
  | c + 1, k, h, j, h1, h2 => by
    rw [show val f k (c + 1) = val f (k + 1) c * 256 + f k from rfl, show val g k (c + 1) = val g (k + 1) c * 256 + g k from rfl] at h
    have a := hf k
    have b := hg k
    have e : val f (k + 1) c = val g (k + 1) c := by omega
    by_cases hj : j = k
    · subst hj; omega
    · exact val_ext f g hf hg c (k + 1) e j (by omega) (by omega)
theorem val_dig' (f : Nat → Int) (n size : Nat) (hf : ∀ j, j < size → f j = ((sh n j : Nat) : Int) % 256) (h0 : sh n size = 0) : ∀ c k, k + c = size → val f k c = ((sh n k : Nat) : Int)
  | 0, k, h => by obtain rfl : k = size := by omega
                  rw [val_zero, h0]; rfl
  | c + 1, k, h => by
    have ih := val_dig' f n size hf h0 c (k + 1) (by omega)
    rw [show val f k (c + 1) = val f (k + 1) c * 256 + f k from rfl, ih, hf k (by omega), sh_succ]
    omega
theorem num_digs (zs : List Int) (a n size : Nat) (h1 : 1 ≤ size) (h8 : size ≤ 8) (h0 : sh n size = 0) (hn : n ≤ 9223372036854775807) (hl : a + size ≤ zs.length)
    (hf : ∀ j, j < size → zs.getD (a + j) 0 = (dig n size).getD j 0) : numOf zs a size = n := by
  have hv := val_dig' (byteFrom zs a) n size (fun j hj => by unfold byteFrom; rw [hf j hj, dig_at n size j hj]) h0 size 0 (by omega)
  rw [sh_zero] at hv
  rw [(num_yes zs a size h1 h8 hl (by rw [hv]; omega)).2, hv]
theorem num_other (zs : List Int) (hz : ∀ i, 0 ≤ zs.getD i 0 ∧ zs.getD i 0 ≤ 255) (a n size : Nat) (h1 : 1 ≤ size) (h8 : size ≤ 7) (h0 : sh n size = 0) (hl : a + size ≤ zs.length)
    (j : Nat) (hj : j < size) (hne : zs.getD (a + j) 0 ≠ (dig n size).getD j 0) : numOf zs a size ≠ n := by
  have hlt := val_lt (byteFrom zs a) (byteFrom_bd hz a) size 0
  have hp := pow256_le size 7 h8
  have e7 : (256 : Int) ^ 7 = 72057594037927936 := by decide
  rw [(num_yes zs a size h1 (by omega) hl (by omega)).2]
  intro e
  have hv := val_dig' (fun j => (dig n size).getD j 0) n size (fun j hj => dig_at n size j hj) h0 size 0 (by omega)
  rw [sh_zero] at hv
  exact hne (val_ext (byteFrom zs a) (fun j => (dig n size).getD j 0) (byteFrom_bd hz a) (fun j => dig_bd n size j) size 0 (e.trans hv.symm) j (Nat.zero_le _) (by omega))
end Go.Proofs.Ytgkhioomckkinaa
