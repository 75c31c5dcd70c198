/- ItemRead: the item whose text some bytes are; both readers in one form. Conditions: at most 2^20 bytes; the library's variables are as its text lays them. -/
import Derived.Test.YtoppccfgcccijaaDoorYh18
import Derived.Test.YtoppccfgcccijaaDoorSx7
import Derived.Test.YtoppccfgcccijaaDoorNr
namespace Go.Proofs.YtoppccfgcccijaaDoor
open Go.RowKit
set_option maxRecDepth 100000

theorem dec_inj18 {n m : Int} (hn : -9223372036854775808 ≤ n ∧ n ≤ 9223372036854775807) (hm : -9223372036854775808 ≤ m ∧ m ≤ 9223372036854775807) (h : decI n = decI m) : n = m := by
  have h1 := atoi_dec18 hn
  rw [h, atoi_dec18 hm] at h1
  injection h1 with h1
  exact h1.symm
theorem hex_inj18 {a b : List Int} (ha : byteL a) (hb : byteL b) (h : hexB a = hexB b) : a = b := by
  have h1 := unH_hexB ha
  rw [h, unH_hexB hb] at h1
  injection h1 with h1 _
  exact h1.symm
theorem same_bits18 {f g : Nat} (h : fbits f = fbits g) : Same f g := by
  unfold fbits at h
  by_cases hf : isN f = true
  · by_cases hg : isN g = true
    · exact .inl ⟨hf, hg⟩
    · rw [if_pos hf, if_neg hg] at h
      exact absurd (by rw [← h]; decide +kernel) hg
  · by_cases hg : isN g = true
    · rw [if_neg hf, if_pos hg] at h
      exact absurd (by rw [h]; decide +kernel) hf
    · rw [if_neg hf, if_neg hg] at h
      exact .inr ⟨by simpa using hf, h.symm⟩
theorem txtI_inj18 {K N K' N' : Int} {f f' : Nat} {Z Z' : List Int} (h : ItB K N f Z) (h' : ItB K' N' f' Z') (e : txtI K N f Z = txtI K' N' f' Z') : K = K' ∧ N = N' ∧ Same f f' ∧ Z = Z' := by
  have hK := of_decide_eq_true (show decide (0 ≤ K ∧ K ≤ 3 ∧ Z.length ≤ 40 ∧ (K = 1 ∨ N = 0) ∧ (K = 2 ∨ f = 0) ∧ (K = 3 ∨ Z.length = 0)) = true from h.ok)
  have hK' := of_decide_eq_true (show decide (0 ≤ K' ∧ K' ≤ 3 ∧ Z'.length ≤ 40 ∧ (K' = 1 ∨ N' = 0) ∧ (K' = 2 ∨ f' = 0) ∧ (K' = 3 ∨ Z'.length = 0)) = true from h'.ok)
  have nilZ : ∀ {L : List Int}, L.length = 0 → L = [] := fun h => List.eq_nil_of_length_eq_zero h
  rcases txtI_head h.ok with ⟨rfl, q⟩ | ⟨rfl, q⟩ | ⟨rfl, q⟩ | ⟨rfl, q⟩ <;> rcases txtI_head h'.ok with ⟨rfl, q'⟩ | ⟨rfl, q'⟩ | ⟨rfl, q'⟩ | ⟨rfl, q'⟩ <;> rw [q, q'] at e
  · injection e with _ e
    have hz : Z = [] := nilZ (by omega)
    have hz' : Z' = [] := nilZ (by omega)
    have hf : f = 0 := by omega
    have hf' : f' = 0 := by omega
    subst hz hz' hf hf'
    exact ⟨rfl, dec_inj18 h.bn h'.bn e, Same.refl _, rfl⟩
  · injection e with e _; omega
  · injection e with e _; omega
  · injection e with e _; omega
  · injection e with e _; omega
  · injection e with _ e
    have hz : Z = [] := nilZ (by omega)
    have hz' : Z' = [] := nilZ (by omega)
    have e2 := hex_inj18 (hi8_bd _ 8) (hi8_bd _ 8) e
    have e3 : fbits f = fbits f' := by rw [← low_hi8 _ (fbits_lt f h.bf), e2, low_hi8 _ (fbits_lt f' h'.bf)]
    subst hz hz'
    exact ⟨rfl, by omega, same_bits18 e3, rfl⟩
  · injection e with e _; omega
  · injection e with e _; omega
  · injection e with e _; omega
  · injection e with e _; omega
  · injection e with _ e
    have hf : f = 0 := by omega
    have hf' : f' = 0 := by omega
    subst hf hf'
    exact ⟨rfl, by omega, Same.refl _, hex_inj18 h.bz h'.bz e⟩
  · injection e with e _; omega
  · injection e with e _; omega
  · injection e with e _; omega
  · injection e with e _; omega
  · have hz : Z = [] := nilZ (by omega)
    have hz' : Z' = [] := nilZ (by omega)
    have hf : f = 0 := by omega
    have hf' : f' = 0 := by omega
    subst hz hz' hf hf'
    exact ⟨rfl, by omega, Same.refl _, rfl⟩
open Classical in
/-- The item whose text this is. -/
noncomputable def ansI (zs : List Int) : Int × Int × Nat × List Int × Bool :=
  if h : ∃ q : Int × Int × Nat × List Int, ItB q.1 q.2.1 q.2.2.1 q.2.2.2 ∧ txtI q.1 q.2.1 q.2.2.1 q.2.2.2 = zs then (h.choose.1, h.choose.2.1, h.choose.2.2.1, h.choose.2.2.2, true) else (0, 0, 0, [], false)
theorem ansI_yes {zs : List Int} {RK RN : Int} {RF : Nat} {RZ : List Int} {ok : Bool} (hR : ansI zs = (RK, RN, RF, RZ, ok)) {K N : Int} {f : Nat} {Z : List Int} (h : ItB K N f Z) (e : txtI K N f Z = zs) : ok = true ∧ RK = K ∧ RN = N ∧ Same RF f ∧ RZ = Z := by
  have hx : ∃ q : Int × Int × Nat × List Int, ItB q.1 q.2.1 q.2.2.1 q.2.2.2 ∧ txtI q.1 q.2.1 q.2.2.1 q.2.2.2 = zs := ⟨(K, N, f, Z), h, e⟩
  unfold ansI at hR
  rw [dif_pos hx] at hR
  have hc := hx.choose_spec
  generalize hx.choose = q at hR hc
  obtain ⟨q1, q2, q3, q4⟩ := q
  simp only [Prod.mk.injEq] at hR
  obtain ⟨rfl, rfl, rfl, rfl, rfl⟩ := hR
  obtain ⟨a, b, c, d⟩ := txtI_inj18 hc.1 h (hc.2.trans e.symm)
  exact ⟨rfl, a, b, c, d⟩
theorem ansI_no {zs : List Int} {RK RN : Int} {RF : Nat} {RZ : List Int} {ok : Bool} (hR : ansI zs = (RK, RN, RF, RZ, ok)) (h : ∀ K N f Z, ItB K N f Z → txtI K N f Z ≠ zs) : RK = 0 ∧ RN = 0 ∧ RF = 0 ∧ RZ = [] ∧ ok = false := by
  unfold ansI at hR
  rw [dif_neg (fun ⟨q, hq⟩ => h _ _ _ _ hq.1 hq.2)] at hR
  simp only [Prod.mk.injEq] at hR
  obtain ⟨rfl, rfl, rfl, rfl, rfl⟩ := hR
  exact ⟨rfl, rfl, rfl, rfl, rfl⟩
theorem ansI_bd {zs : List Int} {RK RN : Int} {RF : Nat} {RZ : List Int} {ok : Bool} (hR : ansI zs = (RK, RN, RF, RZ, ok)) : (∀ i, 0 ≤ RZ.getD i 0 ∧ RZ.getD i 0 ≤ 255) ∧ RZ.length ≤ 2097152 := by
  by_cases hx : ∃ q : Int × Int × Nat × List Int, ItB q.1 q.2.1 q.2.2.1 q.2.2.2 ∧ txtI q.1 q.2.1 q.2.2.1 q.2.2.2 = zs
  · obtain ⟨⟨K, N, f, Z⟩, h, e⟩ := hx
    obtain ⟨_, _, _, _, rfl⟩ := ansI_yes hR h e
    have hK := of_decide_eq_true (show decide (0 ≤ K ∧ K ≤ 3 ∧ RZ.length ≤ 40 ∧ (K = 1 ∨ N = 0) ∧ (K = 2 ∨ f = 0) ∧ (K = 3 ∨ RZ.length = 0)) = true from h.ok)
    exact ⟨h.bz, by omega⟩
  · obtain ⟨_, _, _, rfl, _⟩ := ansI_no hR (fun K N f Z h e => hx ⟨(K, N, f, Z), h, e⟩)
    exact ⟨fun i => by simp, by simp⟩
/-- The specification's reader in the form of the law's walk. -/
theorem spec_ItemRead_n {ad : Option Addr} {n : Nat} (cap : Nat) (hcap : n ≤ cap) {zs : List Int} {w : World} (h : Reads w ad n zs) (hn : n ≤ 1048576) {RK RN : Int} {RF : Nat} {RZ : List Int} {ok : Bool} (hR : ansI zs = (RK, RN, RF, RZ, ok)) :
    Calls Tryd.prog 15 #[.slice ad n cap] w fun e w' => ∃ (f' : Nat) (a : Option Addr) (c : Nat), e = .returned (.tuple #[.agg #[.int .i64 RK, .int .i64 RN, .float .f64 f', .slice a RZ.length c], .bool ok]) ∧ f' < 18446744073709551616 ∧ Hid (Same RF f') ∧ Reads w' a RZ.length RZ ∧ Below w.heap.size w w' := by
  refine (spec_ItemRead cap hcap h hn).mono ?_
  rintro e w' ⟨⟨K, N, f, a, m, c, Z, fl, rfl, hr, hf, hy, hno⟩, b⟩
  have hl := hr.len
  cases fl with
  | true =>
    obtain ⟨hi, e⟩ := hy rfl
    obtain ⟨rfl, rfl, rfl, hs, rfl⟩ := ansI_yes hR hi e
    subst hl
    exact ⟨f, a, c, rfl, hf, hid hs, hr, b⟩
  | false =>
    obtain ⟨⟨rfl, rfl, rfl, rfl, rfl, rfl⟩, hx⟩ := hno rfl
    obtain ⟨rfl, rfl, rfl, rfl, rfl⟩ := ansI_no hR hx
    exact ⟨0, none, 0, rfl, by omega, hid (Same.refl _), ⟨rfl, .inl rfl, fun i => by simp⟩, b⟩
end Go.Proofs.YtoppccfgcccijaaDoor
