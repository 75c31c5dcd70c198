/- Statuses out of bytes: the plain mathematics. No conditions. -/
import Derived.Test.YtioefplkadpfnaaSh8
namespace Go.Proofs.Ytioefplkadpfnaa
open Go.RowKit
set_option maxRecDepth 100000

def dz (b : List Int) (i : Nat) : Int := bitsAt (b.getD (i / 4) 0) (i % 4)
theorem dz_bd (b : List Int) (i : Nat) : 0 ≤ dz b i ∧ dz b i ≤ 3 := bitsAt_bd _ _
def okAt (b : List Int) (N i : Nat) : Prop := dz b i ≠ 3 ∧ (0 < dz b i → i ≠ 0 ∧ i < N)
instance (b : List Int) (N i : Nat) : Decidable (okAt b N i) := by unfold okAt; infer_instance
def rdOk (b : List Int) (x : Int) : Bool := decide ((0 ≤ x ∧ x ≤ 401) ∧ b.length = (x.toNat + 3) / 4) && (List.range (4 * b.length)).all fun i => decide (okAt b x.toNat i)
def rdL (b : List Int) (x : Int) : List Int := if rdOk b x = true then (List.range x.toNat).map (dz b) else []
theorem rdL_small (b : List Int) (x : Int) : (rdL b x).length ≤ 1500000 ∧ ∀ i, -9223372036854775808 ≤ (rdL b x).getD i 0 ∧ (rdL b x).getD i 0 ≤ 9223372036854775807 := by
  unfold rdL
  split
  · rename_i h
    have hx : 0 ≤ x ∧ x ≤ 401 := by
      unfold rdOk at h
      simp only [Bool.and_eq_true, decide_eq_true_eq] at h
      exact h.1.1
    refine ⟨by simp; omega, fun i => ?_⟩
    by_cases hi : i < x.toNat
    · simp only [List.getD_eq_getElem?_getD, List.getElem?_map, List.getElem?_range hi, Option.map_some, Option.getD_some]
      have := dz_bd b i; omega
    · simp only [List.getD_eq_getElem?_getD, List.getElem?_map, List.getElem?_eq_none (show (List.range x.toNat).length ≤ i by simp; omega), Option.map_none, Option.getD_none]; omega
  · simp
theorem rdOk_yes {b : List Int} {N : Nat} (hN : N ≤ 401) (hl : b.length = (N + 3) / 4) (h : ∀ i, i < 4 * b.length → okAt b N i) : rdOk b N = true := by
  unfold rdOk
  rw [Int.toNat_natCast, decide_eq_true ⟨by omega, hl⟩, Bool.true_and, List.all_eq_true]
  intro i hi
  exact decide_eq_true (h i (List.mem_range.1 hi))
theorem rdOk_bad {b : List Int} {N i : Nat} (hi : i < 4 * b.length) (h : ¬ okAt b N i) : rdOk b N = false := by
  unfold rdOk
  rw [Int.toNat_natCast]
  have : ((List.range (4 * b.length)).all fun i => decide (okAt b N i)) = false := by
    rw [List.all_eq_false]
    exact ⟨i, List.mem_range.2 hi, by simpa using h⟩
  rw [this, Bool.and_false]
theorem rdOk_no {b : List Int} {x : Int} (h : ¬ ((0 ≤ x ∧ x ≤ 401) ∧ b.length = (x.toNat + 3) / 4)) : rdOk b x = false := by
  unfold rdOk; rw [decide_eq_false h, Bool.false_and]
theorem rdL_yes {b : List Int} {N : Nat} (h : rdOk b N = true) : rdL b N = (List.range N).map (dz b) := by unfold rdL; rw [if_pos h, Int.toNat_natCast]
theorem rdL_no {b : List Int} {x : Int} (h : rdOk b x = false) : rdL b x = [] := by unfold rdL; rw [h]; rfl

/-- What stands at place i when the places 1 .. k - 1 were taken. -/
def rg (b : List Int) (k i : Nat) : Int := if 1 ≤ i ∧ i < k ∧ dz b i ≠ 3 then 0 else dz b i
def rb (b : List Int) (k j : Nat) : Int := rg b k (4 * j) + rg b k (4 * j + 1) * 4 + rg b k (4 * j + 2) * 16 + rg b k (4 * j + 3) * 64
def rbs (b : List Int) (k : Nat) : List Int := (List.range 101).map (rb b k)
theorem rg_bd (b : List Int) (k i : Nat) : 0 ≤ rg b k i ∧ rg b k i ≤ 3 := by
  have := dz_bd b i
  unfold rg; split <;> omega
theorem rb_bd (b : List Int) (k j : Nat) : 0 ≤ rb b k j ∧ rb b k j ≤ 255 := by
  have := rg_bd b k (4 * j); have := rg_bd b k (4 * j + 1); have := rg_bd b k (4 * j + 2); have := rg_bd b k (4 * j + 3)
  unfold rb; omega
theorem rbs_length (b : List Int) (k : Nat) : (rbs b k).length = 101 := by simp [rbs]
theorem rbs_at (b : List Int) (k j : Nat) (h : j < 101) : (rbs b k).getD j 0 = rb b k j := by simp [rbs, h]
theorem rbs_bd (b : List Int) (k : Nat) : ∀ j, 0 ≤ (rbs b k).getD j 0 ∧ (rbs b k).getD j 0 ≤ 255 := by
  intro j
  by_cases h : j < 101
  · rw [rbs_at b k j h]; exact rb_bd _ _ _
  · rw [List.getD_eq_getElem?_getD, List.getElem?_eq_none (by rw [rbs_length]; omega)]; simp
theorem rb_bits (b : List Int) (k j q : Nat) (hq : q < 4) : bitsAt (rb b k j) q = rg b k (4 * j + q) := by
  have h0 := rg_bd b k (4 * j); have h1 := rg_bd b k (4 * j + 1); have h2 := rg_bd b k (4 * j + 2); have h3 := rg_bd b k (4 * j + 3)
  rcases (show q = 0 ∨ q = 1 ∨ q = 2 ∨ q = 3 by omega) with rfl | rfl | rfl | rfl <;> simp only [bitsAt, rb] <;> simp <;> omega
theorem dz_at (b : List Int) (j q : Nat) (hq : q < 4) : dz b (4 * j + q) = bitsAt (b.getD j 0) q := by
  unfold dz; rw [show (4 * j + q) / 4 = j by omega, show (4 * j + q) % 4 = q by omega]
theorem rg_one (b : List Int) (i : Nat) : rg b 1 i = dz b i := by unfold rg; rw [if_neg (by omega)]
theorem rb_one (b : List Int) (j : Nat) (h : 0 ≤ b.getD j 0 ∧ b.getD j 0 ≤ 255) : rb b 1 j = b.getD j 0 := by
  unfold rb
  rw [rg_one, rg_one, rg_one, rg_one, dz_at b j 1 (by omega), dz_at b j 2 (by omega), dz_at b j 3 (by omega), show dz b (4 * j) = bitsAt (b.getD j 0) 0 from dz_at b j 0 (by omega)]
  generalize b.getD j 0 = c at *
  simp only [bitsAt]; simp; omega
theorem rg_same (b : List Int) (k i : Nat) (h : i ≠ k ∨ dz b k = 3) : rg b (k + 1) i = rg b k i := by
  unfold rg
  by_cases h1 : 1 ≤ i ∧ i < k ∧ dz b i ≠ 3
  · rw [if_pos h1, if_pos ⟨h1.1, by omega, h1.2.2⟩]
  · rw [if_neg h1, if_neg]
    rintro ⟨a1, a2, a3⟩
    rcases h with h | h
    · exact h1 ⟨a1, by omega, a3⟩
    · by_cases e : i = k
      · subst e; exact a3 h
      · exact h1 ⟨a1, by omega, a3⟩
theorem rg_new (b : List Int) (k : Nat) (hk : 1 ≤ k) (h : dz b k ≠ 3) : rg b (k + 1) k = 0 := by unfold rg; rw [if_pos ⟨hk, by omega, h⟩]
theorem rg_old (b : List Int) (k : Nat) : rg b k k = dz b k := by unfold rg; rw [if_neg (by omega)]
theorem rb_same (b : List Int) (k j : Nat) (h : j ≠ k / 4 ∨ dz b k = 3) : rb b (k + 1) j = rb b k j := by
  unfold rb
  rw [rg_same b k (4 * j) (h.imp (by omega) id), rg_same b k (4 * j + 1) (h.imp (by omega) id), rg_same b k (4 * j + 2) (h.imp (by omega) id), rg_same b k (4 * j + 3) (h.imp (by omega) id)]
theorem rb_new (b : List Int) (k : Nat) (hk : 1 ≤ k) (h : dz b k ≠ 3) : rb b k (k / 4) - dz b k * sh4 (k % 4) = rb b (k + 1) (k / 4) := by
  have e := rg_new b k hk h
  have e2 := rg_old b k
  unfold rb
  rcases (show k % 4 = 0 ∨ k % 4 = 1 ∨ k % 4 = 2 ∨ k % 4 = 3 by omega) with hm | hm | hm | hm
  · have hk4 : 4 * (k / 4) = k := by omega
    rw [hk4, rg_same b k (k + 1) (.inl (by omega)), rg_same b k (k + 2) (.inl (by omega)), rg_same b k (k + 3) (.inl (by omega)), e, e2, hm]
    simp only [sh4]; simp <;> omega
  · have hk4 : 4 * (k / 4) + 1 = k := by omega
    rw [hk4, rg_same b k (4 * (k / 4)) (.inl (by omega)), rg_same b k (4 * (k / 4) + 2) (.inl (by omega)), rg_same b k (4 * (k / 4) + 3) (.inl (by omega)), e, e2, hm]
    simp only [sh4]; simp <;> omega
  · have hk4 : 4 * (k / 4) + 2 = k := by omega
    rw [hk4, rg_same b k (4 * (k / 4)) (.inl (by omega)), rg_same b k (4 * (k / 4) + 1) (.inl (by omega)), rg_same b k (4 * (k / 4) + 3) (.inl (by omega)), e, e2, hm]
    simp only [sh4]; simp <;> omega
  · have hk4 : 4 * (k / 4) + 3 = k := by omega
    rw [hk4, rg_same b k (4 * (k / 4)) (.inl (by omega)), rg_same b k (4 * (k / 4) + 1) (.inl (by omega)), rg_same b k (4 * (k / 4) + 2) (.inl (by omega)), e, e2, hm]
    simp only [sh4]; simp <;> omega
theorem rbs_bits (b : List Int) (k : Nat) (hk : k ≤ 400) : bitsAt ((rbs b k).getD (k / 4) 0) (k % 4) = dz b k := by
  rw [rbs_at b k (k / 4) (by omega), rb_bits b k (k / 4) (k % 4) (by omega), show 4 * (k / 4) + k % 4 = k by omega, rg_old]
theorem rbs_set (b : List Int) (k : Nat) (hk : 1 ≤ k) (hk4 : k ≤ 400) (h : dz b k ≠ 3) : (rbs b k).set (k / 4) ((rbs b k).getD (k / 4) 0 - dz b k * sh4 (k % 4)) = rbs b (k + 1) := by
  rw [rbs_at b k (k / 4) (by omega), rb_new b k hk h]
  apply List.ext_getElem
  · simp [rbs]
  · intro i h1 h2
    rw [List.getElem_set]
    by_cases hj : k / 4 = i
    · subst hj; simp [rbs]
    · rw [if_neg hj]; simp only [rbs, List.getElem_map, List.getElem_range]; exact (rb_same b k i (.inl (fun e => hj e.symm))).symm
theorem rbs_same (b : List Int) (k : Nat) (h : dz b k = 3) : rbs b (k + 1) = rbs b k := by
  unfold rbs; congr 1; funext j; exact rb_same b k j (.inr h)
theorem rbs_one (b : List Int) (hl : b.length ≤ 101) (h : ∀ i, 0 ≤ b.getD i 0 ∧ b.getD i 0 ≤ 255) : rbs b 1 = grow b 101 := by
  apply List.ext_getElem
  · rw [rbs_length, grow_length]; omega
  · intro i h1 h2
    have e1 : (rbs b 1)[i] = rb b 1 i := by simp [rbs]
    have e2 : (grow b 101)[i] = (grow b 101).getD i 0 := by rw [List.getD_eq_getElem?_getD, List.getElem?_eq_getElem h2]; rfl
    rw [e1, e2, grow_at, rb_one b i (h i)]
def allZ (zs : List Int) : Bool := (List.range 101).all fun i => zs.getD i 0 == 0
theorem rg_zero (b : List Int) (N i : Nat) : rg b (max N 1) i = 0 ↔ okAt b N i := by
  have h := dz_bd b i
  unfold rg okAt
  by_cases h1 : 1 ≤ i ∧ i < max N 1 ∧ dz b i ≠ 3
  · rw [if_pos h1]
    exact ⟨fun _ => ⟨h1.2.2, fun _ => by omega⟩, fun _ => rfl⟩
  · rw [if_neg h1]
    constructor
    · intro h0; exact ⟨by omega, fun h2 => by omega⟩
    · rintro ⟨h3, h4⟩
      by_cases h5 : 0 < dz b i
      · have := h4 h5
        exact absurd ⟨by omega, by omega, h3⟩ h1
      · omega
theorem dz_far (b : List Int) (i : Nat) (h : 4 * b.length ≤ i) : dz b i = 0 := by
  unfold dz
  rw [List.getD_eq_getElem?_getD, List.getElem?_eq_none (by omega)]
  simp [bitsAt]
theorem okAt_far (b : List Int) (N i : Nat) (h : 4 * b.length ≤ i) : okAt b N i := by
  unfold okAt; rw [dz_far b i h]; exact ⟨by omega, fun q => by omega⟩
theorem allZ_iff (b : List Int) (N : Nat) (hl : b.length ≤ 101) : allZ (rbs b (max N 1)) = true ↔ ∀ i, i < 4 * b.length → okAt b N i := by
  unfold allZ
  rw [List.all_eq_true]
  constructor
  · intro h i hi
    have h1 := h (i / 4) (List.mem_range.2 (by omega))
    rw [rbs_at _ _ _ (by omega)] at h1
    have h2 : rb b (max N 1) (i / 4) = 0 := by simpa using h1
    rw [← rg_zero]
    have h0 := rg_bd b (max N 1) (4 * (i / 4)); have h3 := rg_bd b (max N 1) (4 * (i / 4) + 1); have h4 := rg_bd b (max N 1) (4 * (i / 4) + 2); have h5 := rg_bd b (max N 1) (4 * (i / 4) + 3)
    unfold rb at h2
    rcases (show i = 4 * (i / 4) ∨ i = 4 * (i / 4) + 1 ∨ i = 4 * (i / 4) + 2 ∨ i = 4 * (i / 4) + 3 by omega) with e | e | e | e <;> rw [e] <;> omega
  · intro h j hj
    have hall : ∀ i, okAt b N i := fun i => by
      by_cases hi : i < 4 * b.length
      · exact h i hi
      · exact okAt_far b N i (by omega)
    have hz : ∀ i, rg b (max N 1) i = 0 := fun i => (rg_zero b N i).2 (hall i)
    rw [rbs_at _ _ _ (List.mem_range.1 hj)]
    unfold rb
    rw [hz, hz, hz, hz]; rfl
theorem rdOk_all {b : List Int} {N : Nat} (hN : N ≤ 401) (hl : b.length = (N + 3) / 4) : rdOk b N = allZ (rbs b (max N 1)) := by
  have hl1 : b.length ≤ 101 := by omega
  cases h : allZ (rbs b (max N 1)) with
  | true => exact rdOk_yes hN hl ((allZ_iff b N hl1).1 h)
  | false =>
    cases h2 : rdOk b N with
    | false => rfl
    | true =>
      exfalso
      have : allZ (rbs b (max N 1)) = true := by
        rw [allZ_iff b N hl1]
        unfold rdOk at h2
        simp only [Bool.and_eq_true, List.all_eq_true, decide_eq_true_eq, Int.toNat_natCast] at h2
        exact fun i hi => h2.2 i (List.mem_range.2 hi)
      rw [h] at this; cases this

/-- What the program has taken at the places below k. -/
def tkA (b : List Int) (i : Nat) : Int := if i = 0 ∨ dz b i = 3 then 0 else dz b i
def tks (b : List Int) (k : Nat) : List Int := (List.range k).map (tkA b)
theorem tks_length (b : List Int) (k : Nat) : (tks b k).length = k := by simp [tks]
theorem tks_succ (b : List Int) (k : Nat) : tks b (k + 1) = tks b k ++ [tkA b k] := by simp [tks, List.range_succ]
theorem set_tk (b : List Int) (k N : Nat) (h : k < N) : (ins (tks b k) ++ List.replicate (N - k) (Value.int .i64 0)).set k (.int .i64 (tkA b k)) = ins (tks b (k + 1)) ++ List.replicate (N - (k + 1)) (Value.int .i64 0) := by
  rw [List.set_append_right _ _ (by simp [ins_length, tks_length]), ins_length, tks_length, Nat.sub_self, show N - k = (N - (k + 1)) + 1 by omega, List.replicate_succ, List.set_cons_zero, tks_succ, ins_append]
  simp [ins]
theorem tks_ok {b : List Int} {N : Nat} (hN : N ≤ 401) (hl : b.length = (N + 3) / 4) (h : rdOk b N = true) : tks b N = rdL b N := by
  rw [rdL_yes h]
  unfold tks
  apply List.map_congr_left
  intro i hi
  have hi := List.mem_range.1 hi
  rw [rdOk_all hN hl, allZ_iff b N (by omega)] at h
  have ho := h i (by omega)
  unfold okAt at ho
  unfold tkA
  have := dz_bd b i
  by_cases h0 : i = 0
  · subst h0
    rw [if_pos (.inl rfl)]
    by_cases h1 : 0 < dz b 0
    · exact absurd rfl (ho.2 h1).1
    · omega
  · rw [if_neg (by rintro (h1 | h1); exact h0 h1; exact ho.1 h1)]
end Go.Proofs.Ytioefplkadpfnaa
