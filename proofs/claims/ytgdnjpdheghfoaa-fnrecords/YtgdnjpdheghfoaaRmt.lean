/- FnRecords, plain: a log's bytes are scanned back as far as they are whole. No conditions beyond the limits. -/
import Derived.Test.YtgdnjpdheghfoaaLbp
import Derived.Test.YtgdnjpdheghfoaaRsc
namespace Go.Proofs.Ytgdnjpdheghfoaa
open Go.RowKit

theorem getD_right (A B : List Int) (i : Nat) : (A ++ B).getD (A.length + i) 0 = B.getD i 0 := by
  rw [List.getD_eq_getElem?_getD, List.getElem?_append_right (by omega), Nat.add_sub_cancel_left, ← List.getD_eq_getElem?_getD]
theorem getD_left (A B : List Int) (i : Nat) (h : i < A.length) : (A ++ B).getD i 0 = A.getD i 0 := by
  rw [List.getD_eq_getElem?_getD, List.getElem?_append_left h, ← List.getD_eq_getElem?_getD]
theorem getD_take (l : List Int) (k i : Nat) (h : i < k) : (l.take k).getD i 0 = l.getD i 0 := by
  rw [List.getD_eq_getElem?_getD, List.getElem?_take, if_pos h, ← List.getD_eq_getElem?_getD]
theorem val_dig' (f : Nat → Int) (n size : Nat) (hf : ∀ j, j < size → f j = ((sh n j : Nat) : Int) % 256) (h0 : sh n size = 0) : ∀ c k, k + c = size → val f k c = ((sh n k : Nat) : Int)
  | 0, k, h => by obtain rfl : k = size := by omega
                  rw [val_zero, h0]; rfl
  | c + 1, k, h => by
    have ih := val_dig' f n size hf h0 c (k + 1) (by omega)
    rw [show val f k (c + 1) = val f (k + 1) c * 256 + f k from rfl, ih, hf k (by omega), sh_succ]
    omega
theorem num_digs (zs : List Int) (a n size : Nat) (h1 : 1 ≤ size) (h8 : size ≤ 8) (h0 : sh n size = 0) (hn : n ≤ 9223372036854775807) (hl : a + size ≤ zs.length)
    (hf : ∀ j, j < size → zs.getD (a + j) 0 = (dig n size).getD j 0) : numOf zs a size = n := by
  have hv := val_dig' (byteFrom zs a) n size (fun j hj => by unfold byteFrom; rw [hf j hj, dig_at n size j hj]) h0 size 0 (by omega)
  rw [sh_zero] at hv
  rw [(num_yes zs a size h1 h8 hl (by rw [hv]; omega)).2, hv]

/-- A frame's parts. -/
structure Parts (kind : Int) (body : List Int) (F H : List Int) (X m : Nat) : Prop where
  hm : body.length = m
  m1000 : m ≤ 1000
  k1 : 1 ≤ kind
  k255 : kind ≤ 255
  hH : H = [kind] ++ dig m 2 ++ body
  hF : F = H ++ dig X 4
  crc : crcOf H = X
  x32 : X ≤ 4294967295

theorem parts_of (kind : Int) (body : List Int) (h1 : 1 ≤ kind) (h255 : kind ≤ 255) (hm : body.length ≤ 1000) (hb : ∀ i, 0 ≤ body.getD i 0 ∧ body.getD i 0 ≤ 255) :
    ∃ H X, Parts kind body (frameL kind body) H X body.length := by
  have hd2 : putL body.length 2 = dig body.length 2 := by
    rw [show (2 : Int) = ((2 : Nat) : Int) from rfl]
    exact putL_yes _ 2 (by omega) (by omega) (sh_le_pow _ 2 (by omega))
  have hc := crcOf_small (headL kind body) (by rw [headL_length kind body hm]; omega) (headL_bd kind body (by omega) h255 hb)
  obtain ⟨X, hX⟩ := Int.eq_ofNat_of_zero_le hc.1
  have hd4 : putL (crcOf (headL kind body)) 4 = dig X 4 := by
    rw [hX, show (4 : Int) = ((4 : Nat) : Int) from rfl]
    exact putL_yes _ 4 (by omega) (by omega) (sh_le_pow _ 4 (by omega))
  refine ⟨headL kind body, X, rfl, hm, h1, h255, ?_, ?_, hX, by omega⟩
  · unfold headL; rw [hd2]
  · unfold frameL; rw [hd4]

section
variable {kind : Int} {body F H : List Int} {X m : Nat}
theorem Parts.lenH (p : Parts kind body F H X m) : H.length = 3 + m := by rw [p.hH, List.length_append, List.length_append, dig_length, p.hm]; simp
theorem Parts.lenF (p : Parts kind body F H X m) : F.length = m + 7 := by rw [p.hF, List.length_append, p.lenH, dig_length]; omega
theorem Parts.at0 (p : Parts kind body F H X m) : F.getD 0 0 = kind := by rw [p.hF, p.hH]; simp
theorem Parts.at1 (p : Parts kind body F H X m) (j : Nat) (hj : j < 2) : F.getD (1 + j) 0 = (dig m 2).getD j 0 := by
  have e : F = [kind] ++ (dig m 2 ++ (body ++ dig X 4)) := by rw [p.hF, p.hH]; simp
  have l1 : ([kind] : List Int).length = 1 := rfl
  rw [e, ← l1, getD_right, getD_left _ _ _ (by rw [dig_length]; exact hj)]
theorem Parts.at4 (p : Parts kind body F H X m) (j : Nat) : F.getD (3 + m + j) 0 = (dig X 4).getD j 0 := by
  rw [p.hF, ← p.lenH, getD_right]
theorem Parts.sh2 (p : Parts kind body F H X m) : sh m 2 = 0 := sh_le_pow m 2 (by have := p.m1000; omega)
theorem Parts.sh4 (p : Parts kind body F H X m) : sh X 4 = 0 := sh_le_pow X 4 (by have := p.x32; omega)
/-- Between other bytes the frame comes back. -/
theorem Parts.well (p : Parts kind body F H X m) (Q P : List Int) (hq : (Q ++ (F ++ P)).length ≤ 65536) : faOf (Q ++ (F ++ P)) Q.length = ⟨kind, body, (Q.length : Int) + 7 + m, 0⟩ := by
  have hm := p.m1000
  have hlF := p.lenF
  have hl : (Q ++ (F ++ P)).length = Q.length + (m + 7) + P.length := by rw [List.length_append, List.length_append, p.lenF]; omega
  have gF : ∀ j, j < m + 7 → (Q ++ (F ++ P)).getD (Q.length + j) 0 = F.getD j 0 := fun j hj => by rw [getD_right, getD_left _ _ _ (by omega)]
  have e0 : (Q ++ (F ++ P)).getD Q.length 0 = kind := by have := gF 0 (by omega); rw [Nat.add_zero] at this; rw [this, p.at0]
  have eN : numOf (Q ++ (F ++ P)) ((Q.length : Int) + 1) 2 = m := by
    have := num_digs (Q ++ (F ++ P)) (Q.length + 1) m 2 (by omega) (by omega) p.sh2 (by omega) (by omega) (fun j hj => by rw [Nat.add_assoc, gF _ (by omega)]; exact p.at1 j hj)
    rwa [show ((Q.length + 1 : Nat) : Int) = (Q.length : Int) + 1 by omega, show ((2 : Nat) : Int) = 2 from rfl] at this
  have eS : numOf (Q ++ (F ++ P)) ((Q.length : Int) + 3 + m) 4 = X := by
    have := num_digs (Q ++ (F ++ P)) (Q.length + (3 + m)) X 4 (by omega) (by omega) p.sh4 (by have := p.x32; omega) (by omega) (fun j hj => by rw [Nat.add_assoc, gF _ (by omega)]; exact p.at4 j)
    rwa [show ((Q.length + (3 + m) : Nat) : Int) = (Q.length : Int) + 3 + m by omega, show ((4 : Nat) : Int) = 4 from rfl] at this
  have sH : sub (Q ++ (F ++ P)) Q.length (3 + m) = H := by
    unfold sub; rw [List.drop_left, p.hF, List.append_assoc, List.take_append_of_le_length (by rw [p.lenH]; exact Nat.le_refl _), List.take_of_length_le (by rw [p.lenH]; exact Nat.le_refl _)]
  have sB : sub (Q ++ (F ++ P)) (Q.length + 3) m = body := by
    have e : Q ++ (F ++ P) = (Q ++ ([kind] ++ dig m 2)) ++ (body ++ (dig X 4 ++ P)) := by rw [p.hF, p.hH]; simp
    have l : (Q ++ ([kind] ++ dig m 2)).length = Q.length + 3 := by simp [dig_length]
    unfold sub
    rw [e, ← l, List.drop_left, List.take_append_of_le_length (by rw [p.hm]; exact Nat.le_refl _), List.take_of_length_le (by rw [p.hm]; exact Nat.le_refl _)]
  have h := fa_well (Q ++ (F ++ P)) Q.length m hq (by omega) eN (by rw [e0]; have := p.k1; omega) (by omega) (by rw [eS, sH, p.crc])
  rw [h, e0, sB]
/-- Cut it is none. -/
theorem Parts.cut (p : Parts kind body F H X m) (Q P : List Int) (hq : (Q ++ (F ++ P)).length ≤ 65536) (l : Nat) (h1 : Q.length ≤ l) (h2 : l < Q.length + (m + 7)) : (faOf ((Q ++ (F ++ P)).take l) Q.length).c = 1 := by
  have hm := p.m1000
  have hlF := p.lenF
  have hL : (Q ++ (F ++ P)).length = Q.length + (m + 7) + P.length := by rw [List.length_append, List.length_append, p.lenF]; omega
  have hl : ((Q ++ (F ++ P)).take l).length = l := by rw [List.length_take]; omega
  have gF : ∀ j, j < m + 7 → (Q ++ (F ++ P)).getD (Q.length + j) 0 = F.getD j 0 := fun j hj => by rw [getD_right, getD_left _ _ _ (by omega)]
  by_cases h3 : l < Q.length + 3
  · rw [fa_no _ _ (by omega)]
  · have e0 : ((Q ++ (F ++ P)).take l).getD Q.length 0 = kind := by
      rw [getD_take _ _ _ (by omega)]
      have := gF 0 (by omega); rw [Nat.add_zero] at this; rw [this, p.at0]
    have eN : numOf ((Q ++ (F ++ P)).take l) ((Q.length : Int) + 1) 2 = m := by
      have := num_digs ((Q ++ (F ++ P)).take l) (Q.length + 1) m 2 (by omega) (by omega) p.sh2 (by omega) (by omega) (fun j hj => by rw [getD_take _ _ _ (by omega), Nat.add_assoc, gF _ (by omega)]; exact p.at1 j hj)
      rwa [show ((Q.length + 1 : Nat) : Int) = (Q.length : Int) + 1 by omega, show ((2 : Nat) : Int) = 2 from rfl] at this
    rw [fa_short _ Q.length m (by omega) (by omega) eN (by rw [e0]; have := p.k1; omega) (by omega)]
end

/-- A record's parts. -/
theorem recOf_back {r : Rc} (h : okR r = true) : recOf r.K (bodyR r) = r := by
  obtain ⟨-, ⟨l1, l2⟩, ⟨x1, x2⟩, ⟨p1, p2⟩, ⟨s1, s2⟩, -⟩ := okRn_bd (show okRn r.K r.L r.X r.P r.S r.D.length = true from h)
  have hlen := bodyR_length h
  obtain ⟨K, L, X, P, S, D⟩ := r
  simp only at *
  obtain ⟨L, rfl⟩ := Int.eq_ofNat_of_zero_le (show 0 ≤ L by omega)
  obtain ⟨X, rfl⟩ := Int.eq_ofNat_of_zero_le x1
  obtain ⟨P, rfl⟩ := Int.eq_ofNat_of_zero_le p1
  obtain ⟨S, rfl⟩ := Int.eq_ofNat_of_zero_le s1
  have e : bodyR ⟨K, L, X, P, S, D⟩ = dig L 4 ++ (dig X 4 ++ (dig P 2 ++ (dig S 2 ++ D))) := by
    unfold bodyR
    simp only
    rw [show (4 : Int) = ((4 : Nat) : Int) from rfl, show (2 : Int) = ((2 : Nat) : Int) from rfl, putL_yes L 4 (by omega) (by omega) (sh_le_pow _ 4 (by omega)), putL_yes X 4 (by omega) (by omega) (sh_le_pow _ 4 (by omega)), putL_yes P 2 (by omega) (by omega) (sh_le_pow _ 2 (by omega)), putL_yes S 2 (by omega) (by omega) (sh_le_pow _ 2 (by omega))]
    simp
  have t : ∀ (Q : List Int) (n size : Nat) (R : List Int) (a : Nat), a = Q.length → 1 ≤ size → size ≤ 8 → n < 256 ^ size → n ≤ 1000000 → numOf (Q ++ (dig n size ++ R)) (a : Int) (size : Int) = n := fun Q n size R a ha h1 h8 hn hn2 => by
    subst ha
    exact num_digs _ Q.length n size h1 h8 (sh_le_pow _ _ hn) (by omega) (by simp [dig_length]) (fun j hj => by rw [getD_right, getD_left _ _ _ (by rw [dig_length]; exact hj)])
  unfold recOf
  rw [e]
  have a1 := t [] L 4 (dig X 4 ++ (dig P 2 ++ (dig S 2 ++ D))) 0 rfl (by omega) (by omega) (by omega) (by omega)
  have a2 := t (dig L 4) X 4 (dig P 2 ++ (dig S 2 ++ D)) 4 (by rw [dig_length]) (by omega) (by omega) (by omega) (by omega)
  have a3 := t (dig L 4 ++ dig X 4) P 2 (dig S 2 ++ D) 8 (by simp [dig_length]) (by omega) (by omega) (by omega) (by omega)
  have a4 := t (dig L 4 ++ (dig X 4 ++ dig P 2)) S 2 D 10 (by simp [dig_length]) (by omega) (by omega) (by omega) (by omega)
  simp only [List.append_assoc, List.nil_append] at a1 a2 a3 a4
  have a5 : (dig L 4 ++ (dig X 4 ++ (dig P 2 ++ (dig S 2 ++ D)))).drop 12 = D := by
    have l : (dig L 4 ++ (dig X 4 ++ (dig P 2 ++ dig S 2))).length = 12 := by simp [dig_length]
    rw [show dig L 4 ++ (dig X 4 ++ (dig P 2 ++ (dig S 2 ++ D))) = (dig L 4 ++ (dig X 4 ++ (dig P 2 ++ dig S 2))) ++ D by simp, ← l, List.drop_left]
  rw [show ((0 : Nat) : Int) = 0 from rfl, show ((4 : Nat) : Int) = 4 from rfl] at a1
  rw [show ((4 : Nat) : Int) = 4 from rfl] at a2
  rw [show ((8 : Nat) : Int) = 8 from rfl, show ((2 : Nat) : Int) = 2 from rfl] at a3
  rw [show ((10 : Nat) : Int) = 10 from rfl, show ((2 : Nat) : Int) = 2 from rfl] at a4
  rw [a1, a2, a3, a4, a5]

theorem bytesR_parts {r : Rc} (h : okR r = true) (hb : bdL r.D) : ∃ H X, Parts r.K (bodyR r) (bytesR r) H X (12 + r.D.length) := by
  obtain ⟨⟨k1, k2⟩, -, -, -, -, n2⟩ := okRn_bd (show okRn r.K r.L r.X r.P r.S r.D.length = true from h)
  have hlen := bodyR_length h
  obtain ⟨H, X, p⟩ := parts_of r.K (bodyR r) k1 (by omega) (by omega) (bodyR_bd hb)
  rw [hlen] at p
  refine ⟨H, X, ?_⟩
  have e : bytesR r = frameL r.K (bodyR r) := by rw [bytesR_yes h]; unfold frameOf; rw [if_pos ⟨k1, by omega, by omega⟩]
  rw [e]; exact p
theorem bytesR_len2 {r : Rc} (h : okR r = true) (hb : bdL r.D) : (bytesR r).length = 19 + r.D.length := by
  obtain ⟨H, X, p⟩ := bytesR_parts h hb
  rw [p.lenF]; omega
theorem ra_back {r : Rc} (h : okR r = true) (hb : bdL r.D) (Q P : List Int) (hq : (Q ++ (bytesR r ++ P)).length ≤ 65536) : raOf (Q ++ (bytesR r ++ P)) Q.length = ⟨r, ((Q.length + (bytesR r).length : Nat) : Int), 0⟩ := by
  obtain ⟨H, X, p⟩ := bytesR_parts h hb
  have hw := p.well Q P hq
  have hl := bytesR_len2 h hb
  have hB := bodyR_length h
  have hr := recOf_back h
  rw [ra_well (by rw [hw]) (by rw [hw]; exact ⟨by simp only; omega, by simp only; rw [hr]; exact h⟩), hw]
  simp only
  rw [hr, hl]
  congr 1
  omega
theorem ra_cut {r : Rc} (h : okR r = true) (hb : bdL r.D) (Q P : List Int) (hq : (Q ++ (bytesR r ++ P)).length ≤ 65536) (l : Nat) (h1 : Q.length ≤ l) (h2 : l < Q.length + (bytesR r).length) : (raOf ((Q ++ (bytesR r ++ P)).take l) Q.length).c ≠ 0 := by
  obtain ⟨H, X, p⟩ := bytesR_parts h hb
  have hl := p.lenF
  have hw := p.cut Q P hq l h1 (by omega)
  rw [ra_code (by rw [hw]; decide)]
  simp only
  rw [hw]; decide

/-- A log's bytes, cut, are scanned as far as they are whole. -/
theorem scan_cut : ∀ (rs : List Rc) (Q : List Int) (f : Nat) (lsn : Int) (l n : Nat), rs.all okR = true → (∀ r ∈ rs, bdL r.D) → (∀ i, i < rs.length → (rs.getD i r0).L = lsn + i) → (Q ++ bytesL rs).length ≤ 65536 → Q.length ≤ l → l ≤ (Q ++ bytesL rs).length →
    n < f → n ≤ rs.length → Q.length + (bytesL (rs.take n)).length ≤ l → (n = rs.length ∨ l < Q.length + (bytesL (rs.take (n + 1))).length) →
    scanF ((Q ++ bytesL rs).take l) f Q.length lsn = (rs.take n, ((Q.length + (bytesL (rs.take n)).length : Nat) : Int))
  | [], Q, f, lsn, l, n, _, _, _, _, h1, h2, _, hn, _, _ => by
    obtain rfl : n = 0 := by simpa using hn
    have e : bytesL [] = [] := rfl
    rw [e, List.append_nil] at h2 ⊢
    rw [List.take_of_length_le (by omega)]
    have hc : (raOf Q Q.length).c ≠ 0 := by
      rw [ra_code (by rw [fa_no _ _ (by omega)]; decide), fa_no _ _ (by omega)]; decide
    rw [scan_stop (fun hh => hc hh.1)]
    simp [e]
  | r :: rs, Q, f, lsn, l, n, ha, hb, hL, hq, h1, h2, hf, hn, hw, hx => by
    have e : bytesL (r :: rs) = bytesR r ++ bytesL rs := by simp [bytesL]
    rw [List.all_cons, Bool.and_eq_true] at ha
    have hbr := hb r (List.mem_cons_self ..)
    rw [e] at hq h2 ⊢
    cases n with
    | zero =>
      have h3 : l < Q.length + (bytesR r).length := by
        rcases hx with hx | hx
        · simp at hx
        · simpa [bytesL] using hx
      rw [scan_stop (fun hh => ra_cut ha.1 hbr Q (bytesL rs) hq l h1 h3 hh.1)]
      simp [bytesL]
    | succ n =>
      have et : ∀ k, bytesL ((r :: rs).take (k + 1)) = bytesR r ++ bytesL (rs.take k) := fun k => by simp [bytesL]
      rw [et] at hw hx ⊢
      rw [List.length_append] at hw
      have hl2 : (Q ++ (bytesR r ++ bytesL rs)).take l = Q ++ (bytesR r ++ (bytesL rs).take (l - Q.length - (bytesR r).length)) := by
        rw [List.take_append, List.take_of_length_le h1, List.take_append, List.take_of_length_le (by omega)]
      have hra := ra_back ha.1 hbr Q ((bytesL rs).take (l - Q.length - (bytesR r).length)) (by rw [← hl2, List.length_take]; omega)
      rw [← hl2] at hra
      obtain ⟨f, rfl⟩ : ∃ f', f = f' + 1 := ⟨f - 1, by omega⟩
      have hL0 := hL 0 (by simp)
      simp only [List.getD_cons_zero] at hL0
      rw [scan_step (by rw [hra]; exact ⟨rfl, by simp only; rw [hL0]; simp⟩), hra]
      simp only
      have hQ : Q ++ (bytesR r ++ bytesL rs) = (Q ++ bytesR r) ++ bytesL rs := by simp
      have hQl : (Q ++ bytesR r).length = Q.length + (bytesR r).length := List.length_append
      have ih := scan_cut rs (Q ++ bytesR r) f (lsn + 1) l n ha.2 (fun x hx => hb x (List.mem_cons_of_mem _ hx)) (fun i hi => by have := hL (i + 1) (by simpa using hi); simp only [List.getD_cons_succ] at this; rw [this]; omega) (by rw [← hQ]; exact hq) (by omega) (by rw [← hQ]; exact h2) (by omega) (by simpa using hn) (by omega) (by
        rcases hx with hx | hx
        · left; simpa using hx
        · right; rw [List.length_append] at hx; omega)
      rw [← hQ, hQl] at ih
      rw [ih]
      simp only [List.take_succ_cons, Prod.mk.injEq, true_and]
      rw [List.length_append]
      omega

theorem bytesL_many : ∀ (rs : List Rc), rs.all okR = true → (∀ r ∈ rs, bdL r.D) → rs.length ≤ (bytesL rs).length
  | [], _, _ => Nat.zero_le _
  | r :: rs, ha, hb => by
    rw [List.all_cons, Bool.and_eq_true] at ha
    have h1 := bytesR_len2 ha.1 (hb r (List.mem_cons_self ..))
    have h2 := bytesL_many rs ha.2 (fun x hx => hb x (List.mem_cons_of_mem _ hx))
    have e : bytesL (r :: rs) = bytesR r ++ bytesL rs := by simp [bytesL]
    rw [e, List.length_append, List.length_cons]
    omega
theorem scan_some {rs : List Rc} {lsn : Int} {l n : Nat} (ha : rs.all okR = true) (hb : ∀ r ∈ rs, bdL r.D) (hL : ∀ i, i < rs.length → (rs.getD i r0).L = lsn + i) (hq : (bytesL rs).length ≤ 65536) (hl : l ≤ (bytesL rs).length) (hn : n ≤ rs.length) (hw : (bytesL (rs.take n)).length ≤ l) (hx : n = rs.length ∨ l < (bytesL (rs.take (n + 1))).length) :
    scanL ((bytesL rs).take l) lsn = (rs.take n, ((bytesL (rs.take n)).length : Int)) := by
  have hm := bytesL_many (rs.take n) (by rw [List.all_eq_true] at ha ⊢; exact fun x hx => ha x (List.mem_of_mem_take hx)) (fun x hx => hb x (List.mem_of_mem_take hx))
  rw [List.length_take] at hm
  have := scan_cut rs [] (((bytesL rs).take l).length + 1) lsn l n ha hb hL (by simpa using hq) (Nat.zero_le _) (by simpa using hl) (by rw [List.length_take]; omega) hn (by simpa using hw) (by simpa using hx)
  unfold scanL
  simpa using this
theorem scan_whole {rs : List Rc} {lsn : Int} (ha : rs.all okR = true) (hb : ∀ r ∈ rs, bdL r.D) (hL : ∀ i, i < rs.length → (rs.getD i r0).L = lsn + i) (hq : (bytesL rs).length ≤ 65536) : scanL (bytesL rs) lsn = (rs, ((bytesL rs).length : Int)) := by
  have := scan_some (l := (bytesL rs).length) (n := rs.length) ha hb hL hq (Nat.le_refl _) (Nat.le_refl _) (by rw [List.take_length]; exact Nat.le_refl _) (.inl rfl)
  rwa [List.take_length, List.take_length] at this
theorem scan_other {rs : List Rc} {lsn lsn' : Int} (ha : rs.all okR = true) (hb : ∀ r ∈ rs, bdL r.D) (hL : ∀ i, i < rs.length → (rs.getD i r0).L = lsn + i) (hq : (bytesL rs).length ≤ 65536) (hne : lsn ≠ lsn') : scanL (bytesL rs) lsn' = ([], 0) := by
  unfold scanL
  cases rs with
  | nil =>
    have e : bytesL [] = [] := rfl
    rw [e]
    exact scan_stop (fun hh => by
      have hc : (raOf [] 0).c ≠ 0 := by rw [ra_code (by rw [fa_no _ _ (by simp)]; decide), fa_no _ _ (by simp)]; decide
      exact hc hh.1)
  | cons r rs =>
    rw [List.all_cons, Bool.and_eq_true] at ha
    have e : bytesL (r :: rs) = [] ++ (bytesR r ++ bytesL rs) := by simp [bytesL]
    have hra := ra_back ha.1 (hb r (List.mem_cons_self ..)) [] (bytesL rs) (by rw [← e]; exact hq)
    rw [← e] at hra
    have hL0 := hL 0 (by simp)
    simp only [List.getD_cons_zero] at hL0
    exact scan_stop (fun hh => by
      have h2 := hh.2
      simp only [List.length_nil] at hra
      rw [show ((0 : Nat) : Int) = 0 from rfl] at hra
      rw [hra] at h2
      simp only at h2
      omega)
end Go.Proofs.Ytgdnjpdheghfoaa
