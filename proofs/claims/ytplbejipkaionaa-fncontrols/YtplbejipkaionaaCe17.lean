/- Plain: a control comes back from its bytes; with one byte changed these are none. No conditions beyond the limits. -/
import Derived.Test.YtplbejipkaionaaCc17
import Derived.Test.YtplbejipkaionaaFat
namespace Go.Proofs.Ytplbejipkaionaa
open Go.RowKit
set_option maxRecDepth 100000

theorem getD_right (A B : List Int) (i : Nat) : (A ++ B).getD (A.length + i) 0 = B.getD i 0 := by
  rw [List.getD_eq_getElem?_getD, List.getElem?_append_right (by omega), Nat.add_sub_cancel_left, ← List.getD_eq_getElem?_getD]
theorem getD_left (A B : List Int) (i : Nat) (h : i < A.length) : (A ++ B).getD i 0 = A.getD i 0 := by
  rw [List.getD_eq_getElem?_getD, List.getElem?_append_left h, ← List.getD_eq_getElem?_getD]
theorem getD_take (l : List Int) (k i : Nat) (h : i < k) : (l.take k).getD i 0 = l.getD i 0 := by
  rw [List.getD_eq_getElem?_getD, List.getElem?_take, if_pos h, ← List.getD_eq_getElem?_getD]
theorem val_dig' (f : Nat → Int) (n size : Nat) (hf : ∀ j, j < size → f j = ((sh n j : Nat) : Int) % 256) (h0 : sh n size = 0) : ∀ c k, k + c = size → val f k c = ((sh n k : Nat) : Int)
  | 0, k, h => by obtain rfl : k = size := by omega
                  rw [val_zero, h0]; rfl
  | c + 1, k, h => by
    have ih := val_dig' f n size hf h0 c (k + 1) (by omega)
    rw [show val f k (c + 1) = val f (k + 1) c * 256 + f k from rfl, ih, hf k (by omega), sh_succ]
    omega
theorem num_digs (zs : List Int) (a n size : Nat) (h1 : 1 ≤ size) (h8 : size ≤ 8) (h0 : sh n size = 0) (hn : n ≤ 9223372036854775807) (hl : a + size ≤ zs.length)
    (hf : ∀ j, j < size → zs.getD (a + j) 0 = (dig n size).getD j 0) : numOf zs a size = n := by
  have hv := val_dig' (byteFrom zs a) n size (fun j hj => by unfold byteFrom; rw [hf j hj, dig_at n size j hj]) h0 size 0 (by omega)
  rw [sh_zero] at hv
  rw [(num_yes zs a size h1 h8 hl (by rw [hv]; omega)).2, hv]

/-- A frame's parts. -/
structure Parts (kind : Int) (body : List Int) (F H : List Int) (X m : Nat) : Prop where
  hm : body.length = m
  m1000 : m ≤ 1000
  k1 : 1 ≤ kind
  k255 : kind ≤ 255
  hH : H = [kind] ++ dig m 2 ++ body
  hF : F = H ++ dig X 4
  crc : crcOf H = X
  x32 : X ≤ 4294967295

theorem parts_of (kind : Int) (body : List Int) (h1 : 1 ≤ kind) (h255 : kind ≤ 255) (hm : body.length ≤ 1000) (hb : ∀ i, 0 ≤ body.getD i 0 ∧ body.getD i 0 ≤ 255) :
    ∃ H X, Parts kind body (frameL kind body) H X body.length := by
  have hd2 : putL body.length 2 = dig body.length 2 := by
    rw [show (2 : Int) = ((2 : Nat) : Int) from rfl]
    exact putL_yes _ 2 (by omega) (by omega) (sh_le_pow _ 2 (by omega))
  have hc := crcOf_small (headL kind body) (by rw [headL_length kind body hm]; omega) (headL_bd kind body (by omega) h255 hb)
  obtain ⟨X, hX⟩ := Int.eq_ofNat_of_zero_le hc.1
  have hd4 : putL (crcOf (headL kind body)) 4 = dig X 4 := by
    rw [hX, show (4 : Int) = ((4 : Nat) : Int) from rfl]
    exact putL_yes _ 4 (by omega) (by omega) (sh_le_pow _ 4 (by omega))
  refine ⟨headL kind body, X, rfl, hm, h1, h255, ?_, ?_, hX, by omega⟩
  · unfold headL; rw [hd2]
  · unfold frameL; rw [hd4]

section
variable {kind : Int} {body F H : List Int} {X m : Nat}
theorem Parts.lenH (p : Parts kind body F H X m) : H.length = 3 + m := by rw [p.hH, List.length_append, List.length_append, dig_length, p.hm]; simp
theorem Parts.lenF (p : Parts kind body F H X m) : F.length = m + 7 := by rw [p.hF, List.length_append, p.lenH, dig_length]; omega
theorem Parts.at0 (p : Parts kind body F H X m) : F.getD 0 0 = kind := by rw [p.hF, p.hH]; simp
theorem Parts.at1 (p : Parts kind body F H X m) (j : Nat) (hj : j < 2) : F.getD (1 + j) 0 = (dig m 2).getD j 0 := by
  have e : F = [kind] ++ (dig m 2 ++ (body ++ dig X 4)) := by rw [p.hF, p.hH]; simp
  have l1 : ([kind] : List Int).length = 1 := rfl
  rw [e, ← l1, getD_right, getD_left _ _ _ (by rw [dig_length]; exact hj)]
theorem Parts.at4 (p : Parts kind body F H X m) (j : Nat) : F.getD (3 + m + j) 0 = (dig X 4).getD j 0 := by
  rw [p.hF, ← p.lenH, getD_right]
theorem Parts.sh2 (p : Parts kind body F H X m) : sh m 2 = 0 := sh_le_pow m 2 (by have := p.m1000; omega)
theorem Parts.sh4 (p : Parts kind body F H X m) : sh X 4 = 0 := sh_le_pow X 4 (by have := p.x32; omega)
/-- Between other bytes the frame comes back. -/
theorem Parts.well (p : Parts kind body F H X m) (Q P : List Int) (hq : (Q ++ (F ++ P)).length ≤ 65536) : faOf (Q ++ (F ++ P)) Q.length = ⟨kind, body, (Q.length : Int) + 7 + m, 0⟩ := by
  have hm := p.m1000
  have hlF := p.lenF
  have hl : (Q ++ (F ++ P)).length = Q.length + (m + 7) + P.length := by rw [List.length_append, List.length_append, p.lenF]; omega
  have gF : ∀ j, j < m + 7 → (Q ++ (F ++ P)).getD (Q.length + j) 0 = F.getD j 0 := fun j hj => by rw [getD_right, getD_left _ _ _ (by omega)]
  have e0 : (Q ++ (F ++ P)).getD Q.length 0 = kind := by have := gF 0 (by omega); rw [Nat.add_zero] at this; rw [this, p.at0]
  have eN : numOf (Q ++ (F ++ P)) ((Q.length : Int) + 1) 2 = m := by
    have := num_digs (Q ++ (F ++ P)) (Q.length + 1) m 2 (by omega) (by omega) p.sh2 (by omega) (by omega) (fun j hj => by rw [Nat.add_assoc, gF _ (by omega)]; exact p.at1 j hj)
    rwa [show ((Q.length + 1 : Nat) : Int) = (Q.length : Int) + 1 by omega, show ((2 : Nat) : Int) = 2 from rfl] at this
  have eS : numOf (Q ++ (F ++ P)) ((Q.length : Int) + 3 + m) 4 = X := by
    have := num_digs (Q ++ (F ++ P)) (Q.length + (3 + m)) X 4 (by omega) (by omega) p.sh4 (by have := p.x32; omega) (by omega) (fun j hj => by rw [Nat.add_assoc, gF _ (by omega)]; exact p.at4 j)
    rwa [show ((Q.length + (3 + m) : Nat) : Int) = (Q.length : Int) + 3 + m by omega, show ((4 : Nat) : Int) = 4 from rfl] at this
  have sH : sub (Q ++ (F ++ P)) Q.length (3 + m) = H := by
    unfold sub; rw [List.drop_left, p.hF, List.append_assoc, List.take_append_of_le_length (by rw [p.lenH]; exact Nat.le_refl _), List.take_of_length_le (by rw [p.lenH]; exact Nat.le_refl _)]
  have sB : sub (Q ++ (F ++ P)) (Q.length + 3) m = body := by
    have e : Q ++ (F ++ P) = (Q ++ ([kind] ++ dig m 2)) ++ (body ++ (dig X 4 ++ P)) := by rw [p.hF, p.hH]; simp
    have l : (Q ++ ([kind] ++ dig m 2)).length = Q.length + 3 := by simp [dig_length]
    unfold sub
    rw [e, ← l, List.drop_left, List.take_append_of_le_length (by rw [p.hm]; exact Nat.le_refl _), List.take_of_length_le (by rw [p.hm]; exact Nat.le_refl _)]
  have h := fa_well (Q ++ (F ++ P)) Q.length m hq (by omega) eN (by rw [e0]; have := p.k1; omega) (by omega) (by rw [eS, sH, p.crc])
  rw [h, e0, sB]
end
theorem xor_cancel {a b c : Nat} (h : a ^^^ c = b ^^^ c) : a = b := by
  have := congrArg (fun x => x ^^^ c) h
  simpa [Nat.xor_assoc] using this
theorem st1_inj (x y : Nat) (hx : x < 4294967296) (hy : y < 4294967296) (h : st1 x = st1 y) : x = y := by
  have mixed : ∀ u v : Nat, u < 4294967296 → v < 4294967296 → u % 2 = 1 → ¬ v % 2 = 1 → st1 u ≠ st1 v := by
    intro u v hu hv h1 h2 e
    unfold st1 at e
    rw [if_pos h1, if_neg h2] at e
    have e2 : u / 2 ^^^ v / 2 = 3988292384 := by
      rw [← e, ← Nat.xor_assoc, Nat.xor_self, Nat.zero_xor]
    have : u / 2 ^^^ v / 2 < 2 ^ 31 := Nat.xor_lt_two_pow (by omega) (by omega)
    omega
  by_cases h1 : x % 2 = 1 <;> by_cases h2 : y % 2 = 1
  · unfold st1 at h
    rw [if_pos h1, if_pos h2] at h
    have := xor_cancel h
    omega
  · exact absurd h (mixed x y hx hy h1 h2)
  · exact absurd h.symm (mixed y x hy hx h2 h1)
  · unfold st1 at h
    rw [if_neg h1, if_neg h2] at h
    omega
theorem stN_inj (k x y : Nat) (hx : x < 4294967296) (hy : y < 4294967296) (h : stN k x = stN k y) : x = y := by
  induction k with
  | zero => exact h
  | succ k ih =>
    rw [stN, stN] at h
    exact ih (st1_inj _ _ (stN_lt k x hx) (stN_lt k y hy) h)
theorem stp_left (x y : Nat) (c : Int) (hx : x < 4294967296) (hy : y < 4294967296) (hc : c ≤ 255) (h : stp x c = stp y c) : x = y :=
  xor_cancel (stN_inj 8 _ _ (xor_lt32 _ _ hx (by omega)) (xor_lt32 _ _ hy (by omega)) h)
theorem stp_right (x : Nat) (c d : Int) (hx : x < 4294967296) (hc0 : 0 ≤ c) (hc : c ≤ 255) (hd0 : 0 ≤ d) (hd : d ≤ 255) (h : stp x c = stp x d) : c = d := by
  have e := stN_inj 8 _ _ (xor_lt32 _ _ hx (by omega)) (xor_lt32 _ _ hx (by omega)) h
  rw [Nat.xor_comm x, Nat.xor_comm x] at e
  have := xor_cancel e
  omega
theorem sumL_left (l : List Int) (hl : ∀ c ∈ l, c ≤ 255) : ∀ x y, x < 4294967296 → y < 4294967296 → sumL x l = sumL y l → x = y := by
  induction l with
  | nil => intro x y _ _ h; exact h
  | cons a r ih =>
    intro x y hx hy h
    unfold sumL at h
    rw [List.foldl_cons, List.foldl_cons] at h
    have ha := hl a (by simp)
    have hs : ∀ z, z < 4294967296 → stp z a < 4294967296 := fun z hz => stN_lt _ _ (xor_lt32 _ _ hz (by omega))
    exact stp_left x y a hx hy ha (ih (fun c hc => hl c (by simp [hc])) _ _ (hs x hx) (hs y hy) h)
theorem bd_mem {zs : List Int} (hz : ∀ i, 0 ≤ zs.getD i 0 ∧ zs.getD i 0 ≤ 255) : ∀ c ∈ zs, 0 ≤ c ∧ c ≤ 255 := by
  intro c hc
  obtain ⟨i, hi, rfl⟩ := List.getElem_of_mem hc
  have := hz i
  rwa [List.getD_eq_getElem?_getD, List.getElem?_eq_getElem hi] at this
theorem crc_set (H : List Int) (hH : ∀ i, 0 ≤ H.getD i 0 ∧ H.getD i 0 ≤ 255) (hl : H.length ≤ 65536) (i : Nat) (hi : i < H.length) (c : Int) (hc0 : 0 ≤ c) (hc : c ≤ 255) (hne : c ≠ H.getD i 0) : crcOf (H.set i c) ≠ crcOf H := by
  intro e
  unfold crcOf at e
  rw [List.length_set, if_neg (by omega), if_neg (by omega)] at e
  have e1 : sumTo (H.set i c) H.length = sumTo H H.length := xor_cancel (c := 4294967295) (by omega)
  unfold sumTo at e1
  rw [List.take_of_length_le (by simp), List.take_of_length_le (Nat.le_refl _)] at e1
  have m := bd_mem hH
  have hA : ∀ z ∈ H.take i, z ≤ 255 := fun z hz => (m z (List.mem_of_mem_take hz)).2
  have hB : ∀ z ∈ H.drop (i + 1), z ≤ 255 := fun z hz => (m z (List.mem_of_mem_drop hz)).2
  have d1 : H.set i c = H.take i ++ (c :: H.drop (i + 1)) := by rw [List.set_eq_take_append_cons_drop, if_pos hi]
  have d2 : H = H.take i ++ (H.getD i 0 :: H.drop (i + 1)) := by
    rw [List.getD_eq_getElem?_getD, List.getElem?_eq_getElem hi, Option.getD_some, ← List.drop_eq_getElem_cons hi, List.take_append_drop]
  generalize hy : H.getD i 0 = y at hne d2
  have hyb := hH i
  rw [hy] at hyb
  generalize H.take i = A at *
  generalize H.drop (i + 1) = B at *
  rw [d1, d2] at e1
  unfold sumL at e1
  rw [List.foldl_append, List.foldl_append, List.foldl_cons, List.foldl_cons] at e1
  have hs : List.foldl stp 4294967295 A < 4294967296 := sumL_lt A hA _ (by omega)
  generalize List.foldl stp 4294967295 A = s at *
  have hst : ∀ z : Int, z ≤ 255 → stp s z < 4294967296 := fun z hz => stN_lt _ _ (xor_lt32 _ _ hs (by omega))
  exact hne (stp_right s c y hs hc0 hc hyb.1 hyb.2 (sumL_left B hB _ _ (hst c hc) (hst y hyb.2) e1))


theorem dig_one (n : Nat) (h : n ≤ 255) : dig n 1 = [(n : Int)] := by
  have e : ((sh n 0 : Nat) : Int) % 256 = n := by rw [sh_zero]; omega
  simp [dig, List.range_succ, e]
theorem dig_four (x : Int) (h0 : 0 ≤ x) (h1 : x ≤ 4294967295) : putL x 4 = dig x.toNat 4 ∧ sh x.toNat 4 = 0 := by
  obtain ⟨n, rfl⟩ := Int.eq_ofNat_of_zero_le h0
  have hs : sh n 4 = 0 := sh_le_pow n 4 (by omega)
  exact ⟨by rw [show (4 : Int) = ((4 : Nat) : Int) from rfl, putL_yes n 4 (by omega) (by omega) hs]; rfl, hs⟩
theorem at_mid (P D R : List Int) (j : Nat) (h : j < D.length) : (P ++ (D ++ R)).getD (P.length + j) 0 = D.getD j 0 := by rw [getD_right, getD_left _ _ _ h]
/-- A number of four bytes that stands behind P. -/
theorem num_mid (P R : List Int) (x : Int) (h0 : 0 ≤ x) (h1 : x ≤ 4294967295) (q : Nat) (hq : P.length = q) : numOf (P ++ (putL x 4 ++ R)) q 4 = x := by
  obtain ⟨e, hs⟩ := dig_four x h0 h1
  subst hq
  rw [e]
  have := num_digs (P ++ (dig x.toNat 4 ++ R)) P.length x.toNat 4 (by omega) (by omega) hs (by omega) (by simp [dig_length]) (fun j hj => at_mid _ _ _ _ (by rw [dig_length]; exact hj))
  rw [show ((4 : Nat) : Int) = 4 from rfl] at this
  rw [this]; omega
theorem one_mid (P R : List Int) (x : Int) (h0 : 0 ≤ x) (h1 : x ≤ 255) (q : Nat) (hq : P.length = q) : numOf (P ++ ([x] ++ R)) q 1 = x ∧ (P ++ ([x] ++ R)).getD q 0 = x := by
  obtain ⟨n, rfl⟩ := Int.eq_ofNat_of_zero_le h0
  subst hq
  have := num_digs (P ++ ([(n : Int)] ++ R)) P.length n 1 (by omega) (by omega) (sh_le_pow n 1 (by omega)) (by omega) (by simp) (fun j hj => by rw [dig_one n (by omega)]; exact at_mid _ _ _ _ hj)
  rw [show ((1 : Nat) : Int) = 1 from rfl] at this
  refine ⟨this, ?_⟩
  have := at_mid P [(n : Int)] R 0 (by simp)
  rw [Nat.add_zero] at this
  rw [this]; rfl
/-- A control's numbers stand in its body, wherever this stands. -/
theorem body_back {sq ar ls nx pg : Int} (h : okC sq ar ls nx pg = true) (P R : List Int) (q : Nat) (hq : P.length = q) :
    numOf (P ++ (bodyC sq ar ls nx pg ++ R)) q 4 = sq ∧ (numOf (P ++ (bodyC sq ar ls nx pg ++ R)) ((q : Int) + 4) 1 = ar ∧ (P ++ (bodyC sq ar ls nx pg ++ R)).getD (q + 4) 0 = ar) ∧ numOf (P ++ (bodyC sq ar ls nx pg ++ R)) ((q : Int) + 5) 4 = ls ∧ numOf (P ++ (bodyC sq ar ls nx pg ++ R)) ((q : Int) + 9) 4 = nx ∧ (numOf (P ++ (bodyC sq ar ls nx pg ++ R)) ((q : Int) + 13) 1 = pg ∧ (P ++ (bodyC sq ar ls nx pg ++ R)).getD (q + 13) 0 = pg) := by
  have k := of_decide_eq_true h
  have l1 := putL_four sq (by omega) (by omega)
  have l2 := putL_four ls (by omega) (by omega)
  have l3 := putL_four nx (by omega) (by omega)
  have e1 : P ++ (bodyC sq ar ls nx pg ++ R) = P ++ (putL sq 4 ++ ([ar] ++ (putL ls 4 ++ (putL nx 4 ++ ([pg] ++ R))))) := by unfold bodyC; simp
  have e2 : P ++ (bodyC sq ar ls nx pg ++ R) = (P ++ putL sq 4) ++ ([ar] ++ (putL ls 4 ++ (putL nx 4 ++ ([pg] ++ R)))) := by unfold bodyC; simp
  have e3 : P ++ (bodyC sq ar ls nx pg ++ R) = (P ++ putL sq 4 ++ [ar]) ++ (putL ls 4 ++ (putL nx 4 ++ ([pg] ++ R))) := by unfold bodyC; simp
  have e4 : P ++ (bodyC sq ar ls nx pg ++ R) = (P ++ putL sq 4 ++ [ar] ++ putL ls 4) ++ (putL nx 4 ++ ([pg] ++ R)) := by unfold bodyC; simp
  have e5 : P ++ (bodyC sq ar ls nx pg ++ R) = (P ++ putL sq 4 ++ [ar] ++ putL ls 4 ++ putL nx 4) ++ ([pg] ++ R) := by unfold bodyC; simp
  refine ⟨?_, ?_, ?_, ?_, ?_⟩
  · rw [e1]; exact num_mid _ _ sq (by omega) (by omega) q hq
  · rw [e2]
    have := one_mid (P ++ putL sq 4) (putL ls 4 ++ (putL nx 4 ++ ([pg] ++ R))) ar (by omega) (by omega) (q + 4) (by simp [l1, hq])
    rwa [show ((q + 4 : Nat) : Int) = (q : Int) + 4 by omega] at this
  · rw [e3]
    have := num_mid (P ++ putL sq 4 ++ [ar]) (putL nx 4 ++ ([pg] ++ R)) ls (by omega) (by omega) (q + 5) (by simp [l1, hq])
    rwa [show ((q + 5 : Nat) : Int) = (q : Int) + 5 by omega] at this
  · rw [e4]
    have := num_mid (P ++ putL sq 4 ++ [ar] ++ putL ls 4) ([pg] ++ R) nx (by omega) (by omega) (q + 9) (by simp [l1, l2, hq])
    rwa [show ((q + 9 : Nat) : Int) = (q : Int) + 9 by omega] at this
  · rw [e5]
    have := one_mid (P ++ putL sq 4 ++ [ar] ++ putL ls 4 ++ putL nx 4) R pg (by omega) (by omega) (q + 13) (by simp [l1, l2, l3, hq])
    rwa [show ((q + 13 : Nat) : Int) = (q : Int) + 13 by omega] at this
theorem fill_len {zs : List Int} (h : zs.length ≤ 64) : (fillC zs).length = 64 := by unfold fillC; rw [List.length_append, List.length_replicate]; omega
/-- A control comes back, as the specification reads it and as the frame's body has it. -/
theorem ctl_back {sq ar ls nx pg : Int} (h : okC sq ar ls nx pg = true) : (ctlL sq ar ls nx pg).length = 64 ∧ rawC (ctlL sq ar ls nx pg) = ⟨sq, ar, ls, nx, pg⟩ ∧ (faOf (ctlL sq ar ls nx pg) 0).b = bodyC sq ar ls nx pg := by
  obtain ⟨e, l, -⟩ := ctl_yes h
  have hb := bodyC_bd h
  have h64 : (ctlL sq ar ls nx pg).length = 64 := by rw [e]; exact fill_len (by omega)
  obtain ⟨H, X, p⟩ := parts_of 9 (bodyC sq ar ls nx pg) (by omega) (by omega) (by omega) hb.2
  refine ⟨h64, ?_, ?_⟩
  · have eF : ctlL sq ar ls nx pg = ([9] ++ dig 14 2) ++ (bodyC sq ar ls nx pg ++ (dig X 4 ++ List.replicate 43 0)) := by
      rw [e]; unfold fillC; rw [l]
      have := p.hF
      rw [p.hH, hb.1] at this
      rw [this]; simp
    obtain ⟨r1, ⟨-, r2⟩, r3, r4, ⟨-, r5⟩⟩ := body_back h ([9] ++ dig 14 2) (dig X 4 ++ List.replicate 43 0) 3 (by simp [dig_length])
    rw [← eF] at r1 r2 r3 r4 r5
    unfold rawC
    rw [show ((3 : Nat) : Int) = 3 from rfl] at r1 r3 r4
    rw [show (3 : Int) + 5 = 8 from rfl] at r3
    rw [show (3 : Int) + 9 = 12 from rfl] at r4
    rw [r1, r3, r4, show (ctlL sq ar ls nx pg).getD 7 0 = ar from r2, show (ctlL sq ar ls nx pg).getD 16 0 = pg from r5]
  · have w := p.well [] (List.replicate 43 0) (by simp [l])
    rw [List.nil_append] at w
    have eF : ctlL sq ar ls nx pg = frameL 9 (bodyC sq ar ls nx pg) ++ List.replicate 43 0 := by rw [e]; unfold fillC; rw [l]
    rw [eF]
    rw [show (([] : List Int).length : Int) = 0 from rfl] at w
    exact congrArg FA.b w
/-- As the program reads it. -/
def inC (zs : List Int) : Ct := ⟨numOf (faOf zs 0).b 0 4, numOf (faOf zs 0).b 4 1, numOf (faOf zs 0).b 5 4, numOf (faOf zs 0).b 9 4, numOf (faOf zs 0).b 13 1⟩
def ctC (c : Ct) : List Int := ctlL c.sq c.ar c.ls c.nx c.pg
def okCt (c : Ct) : Bool := okC c.sq c.ar c.ls c.nx c.pg
theorem ctC_no {c : Ct} (h : okCt c = false) : ctC c = [] := by unfold ctC ctlL; rw [if_neg]; exact fun q => by rw [show okC c.sq c.ar c.ls c.nx c.pg = okCt c from rfl, h] at q; cases q
theorem in_back {c : Ct} (h : okCt c = true) : inC (ctC c) = c ∧ rawC (ctC c) = c ∧ (ctC c).length = 64 := by
  obtain ⟨l, r, b⟩ := ctl_back h
  refine ⟨?_, r, l⟩
  unfold inC ctC
  rw [b]
  obtain ⟨r1, ⟨r2, -⟩, r3, r4, ⟨r5, -⟩⟩ := body_back h [] [] 0 rfl
  simp only [List.nil_append, List.append_nil] at r1 r2 r3 r4 r5
  rw [show ((0 : Nat) : Int) = 0 from rfl] at r1 r2 r3 r4 r5
  rw [Int.zero_add] at r2 r3 r4 r5
  rw [r1, r2, r3, r4, r5]
/-- Both read alike. -/
theorem in_raw (zs : List Int) : (okCt (inC zs) && decide (ctC (inC zs) = zs)) = rdOkC zs ∧ (rdOkC zs = true → inC zs = rawC zs) := by
  have key : (okCt (inC zs) = true ∧ ctC (inC zs) = zs) ↔ rdOkC zs = true := by
    constructor
    · rintro ⟨h, e⟩
      obtain ⟨-, r, l⟩ := in_back h
      rw [e] at r l
      exact decide_eq_true ⟨l, by rw [r]; exact e⟩
    · intro h
      obtain ⟨l, e⟩ := of_decide_eq_true h
      have ho : okCt (rawC zs) = true := by
        by_cases q : okCt (rawC zs) = true
        · exact q
        · exfalso
          have := ctC_no (by simpa using q)
          rw [show ctC (rawC zs) = zs from e] at this
          rw [this] at l; simp at l
      obtain ⟨i, -, -⟩ := in_back ho
      rw [show ctC (rawC zs) = zs from e] at i
      rw [i]; exact ⟨ho, e⟩
  refine ⟨?_, fun h => ?_⟩
  · rw [Bool.eq_iff_iff, ← key]; simp
  · obtain ⟨h1, e⟩ := key.2 h
    obtain ⟨-, r, -⟩ := in_back h1
    rw [e] at r; exact r.symm
theorem rd_back {c : Ct} (h : okCt c = true) : rdOkC (ctC c) = true ∧ rdC (ctC c) = c := by
  obtain ⟨i, r, l⟩ := in_back h
  have q : rdOkC (ctC c) = true := decide_eq_true ⟨l, by rw [r]; rfl⟩
  exact ⟨q, by rw [rdC_yes q, r]⟩
theorem put_inj {x y : Int} (hx : 0 ≤ x ∧ x ≤ 4294967295) (hy : 0 ≤ y ∧ y ≤ 4294967295) (h : putL x 4 = putL y 4) : x = y := by
  have a := num_mid [] [] x hx.1 hx.2 0 rfl
  have b := num_mid [] [] y hy.1 hy.2 0 rfl
  rw [h] at a
  exact a.symm.trans b
/-- With one byte of its frame changed it is none. -/
theorem ctl_hurt {c : Ct} (h : okCt c = true) (i : Nat) (hi : i < 21) (x : Int) (hx : 0 ≤ x ∧ x ≤ 255) (hne : x ≠ (ctC c).getD i 0) : rdOkC ((ctC c).set i x) = false := by
  by_cases q : rdOkC ((ctC c).set i x) = true
  case neg => simpa using q
  exfalso
  obtain ⟨l, e⟩ := of_decide_eq_true q
  generalize rawC ((ctC c).set i x) = d at e
  have hd : okCt d = true := by
    by_cases w : okCt d = true
    · exact w
    · exfalso
      have := ctC_no (by simpa using w)
      rw [show ctC d = _ from e] at this
      rw [this] at l; simp at l
  have hcs := fun {c : Ct} (h : okCt c = true) => show ∃ H X, ctC c = H ++ (putL X 4 ++ List.replicate 43 0) ∧ H.length = 17 ∧ crcOf H = X ∧ (0 ≤ X ∧ X ≤ 4294967295) ∧ (∀ i, 0 ≤ H.getD i 0 ∧ H.getD i 0 ≤ 255) by
    obtain ⟨e, l, -⟩ := ctl_yes h
    have hb := bodyC_bd h
    have hh := headL_length 9 (bodyC c.sq c.ar c.ls c.nx c.pg) (by omega)
    have hbd := headL_bd 9 (bodyC c.sq c.ar c.ls c.nx c.pg) (by omega) (by omega) hb.2
    refine ⟨headL 9 (bodyC c.sq c.ar c.ls c.nx c.pg), _, ?_, by omega, rfl, crcOf_small _ (by omega) hbd, hbd⟩
    show ctlL c.sq c.ar c.ls c.nx c.pg = _
    rw [e]; unfold fillC; rw [l]; unfold frameL; simp
  obtain ⟨H, X, e1, l1, c1, x1, b1⟩ := hcs h
  obtain ⟨H', X', e2, l2, c2, x2, b2⟩ := hcs hd
  have ee : ctC d = (ctC c).set i x := e
  have p1 := putL_four X x1.1 x1.2
  have p2 := putL_four X' x2.1 x2.2
  rw [e1, e2] at ee
  by_cases hin : i < 17
  · rw [List.set_append_left _ _ (by omega)] at ee
    have hH := List.append_inj ee (by rw [List.length_set]; omega)
    have hX := List.append_inj hH.2 (by omega)
    have : X' = X := put_inj x2 x1 hX.1
    rw [← c1, ← c2, hH.1] at this
    refine crc_set H b1 (by omega) i (by omega) x hx.1 hx.2 ?_ this
    rw [e1, getD_left _ _ _ (by omega)] at hne
    exact hne
  · rw [List.set_append_right _ _ (by omega)] at ee
    have hH := List.append_inj ee (by omega)
    have eX : X' = X := by rw [← c1, ← c2, hH.1]
    have hs := hH.2
    rw [eX, l1] at hs
    have : (putL X 4 ++ List.replicate 43 0).getD (i - 17) 0 = x := by
      rw [hs]
      simp only [List.getD_eq_getElem?_getD]
      rw [List.getElem?_set_self (by simp [p1]; omega)]
      rfl
    refine hne ?_
    rw [e1, show i = H.length + (i - 17) by omega, getD_right]
    exact this.symm
end Go.Proofs.Ytplbejipkaionaa
