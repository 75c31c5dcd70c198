/- A slice of byte slices, read; the contract of the program's joined. Conditions: lists of at most 2^21 bytes together. -/
import Derived.Test.YtplbejipkaionaaHelp
import Derived.Test.YtplbejipkaionaaDk
import Derived.Laws.AppendOwnNone
namespace Go.Proofs.Ytplbejipkaionaa
open Go.RowKit
set_option maxRecDepth 100000

/-- How many bytes there are. -/
def tot : List (List Int) → Nat
  | [] => 0
  | z :: zs => z.length + tot zs
theorem tot_app : ∀ a b, tot (a ++ b) = tot a + tot b
  | [], b => by simp [tot]
  | z :: zs, b => by simp only [List.cons_append, tot, tot_app zs b]; omega
theorem tot_step (ss : List (List Int)) (k : Nat) (h : k < ss.length) : tot (ss.take (k + 1)) = tot (ss.take k) + (ss.getD k []).length := by
  rw [List.take_add_one, List.getElem?_eq_getElem h, Option.toList_some, tot_app]
  simp [tot, List.getD, h]
theorem tot_take (ss : List (List Int)) (k : Nat) : tot (ss.take k) ≤ tot ss := by
  have := tot_app (ss.take k) (ss.drop k)
  rw [List.take_append_drop] at this
  omega
theorem tot_le {m : Nat} : ∀ (ss : List (List Int)), (∀ i, i < ss.length → (ss.getD i []).length ≤ m) → tot ss ≤ ss.length * m
  | [], _ => by simp [tot]
  | z :: zs, h => by
    have h0 := h 0 (by simp)
    have ih := tot_le zs (fun i hi => by have := h (i + 1) (by simpa using hi); simpa using this)
    simp only [tot, List.length_cons, Nat.add_mul, Nat.one_mul]
    simp at h0
    omega
theorem tot_at (ss : List (List Int)) (k : Nat) : (ss.getD k []).length ≤ tot ss := by
  by_cases h : k < ss.length
  · have := tot_step ss k h
    have := tot_take ss (k + 1)
    omega
  · rw [List.getD_eq_getElem?_getD, List.getElem?_eq_none (by omega)]; simp

/-- A slice of byte slices, read. -/
structure ReadsS (w : World) (ad : Option Addr) (ss : List (List Int)) : Prop where
  cells : ss.length = 0 ∨ ∃ b off, ad = some ⟨b, off, none⟩ ∧ ∀ i, i < ss.length → ∃ v, w.cell? ⟨b, off + i, none⟩ = some v ∧ Row w v (ss.getD i [])
theorem ReadsS.below {w w' : World} {ad : Option Addr} {ss : List (List Int)} (h : ReadsS w ad ss) {B : Nat} (hb : Below B w w') (hB : w.heap.size ≤ B) : ReadsS w' ad ss := by
  refine ⟨?_⟩
  rcases h.cells with h0 | ⟨b, off, rfl, hc⟩
  · exact .inl h0
  · refine .inr ⟨b, off, rfl, fun i hi => ?_⟩
    obtain ⟨v, h1, h2⟩ := hc i hi
    have := World.block_lt_of_cell? w _ h1
    exact ⟨v, by rw [hb.cell (p := ⟨b, off + i, none⟩) (by simp at this ⊢; omega)]; exact h1, h2.below hb hB⟩

theorem flat_step (ss : List (List Int)) (k : Nat) (h : k < ss.length) : (ss.take (k + 1)).flatten = (ss.take k).flatten ++ ss.getD k [] := by
  rw [List.take_succ_eq_append_getElem h, List.flatten_append]
  simp [List.getD, h]
theorem flat_tot : ∀ ss : List (List Int), ss.flatten.length = tot ss
  | [] => rfl
  | z :: ss => by simp [tot, flat_tot ss]

set_option maxHeartbeats 3200000 in
theorem impl_joined {ad : Option Addr} {m : Nat} (cap : Nat) {ss : List (List Int)} {w : World} (h : ReadsS w ad ss) (hl : ss.length = m) (hm : m ≤ 2097152) (ht : tot ss ≤ 2097152) :
    Calls Try.prog 23 #[.slice ad m cap] w fun e w' => ∃ v, e = .returned v ∧ w'.ownsRow w.heap.size 5 1 v (tot ss) (bys ss.flatten) ∧ Below w.heap.size w w' := by
  obtain ⟨i0, hi, hz0, hz1, hz2⟩ := info_parts Try.info5
  go_enter Try.func23, Try.ntmps23
  go_wp2
  go_loopw [3, 8] (fun l i wr => ∃ (k N : Nat) (a' : Option Addr) (c' : Nat), k ≤ m ∧ i = .int .i64 k ∧ l = .slice a' N c' ∧ Hid (N = tot (ss.take k)) ∧ Hid (wr.ownsRow w.heap.size 5 1 (.slice a' N c') N (bys (ss.take k).flatten)) ∧ Hid (Below w.heap.size w wr)) (fun _ i _ => m - (intOf i).toNat)
  case atStart => exact ⟨0, 0, none, 0, Nat.zero_le _, rfl, rfl, hid rfl, hid (World.ownsRow_nil w w.heap.size 5 1), hid (Below.refl _ _)⟩
  case round =>
    obtain ⟨k, N, a', c', hk, rfl, rfl, HN, HO, HB⟩ := hrel
    by_cases hlt : k < m
    · have hlt' : (k : Int) < (m : Int) := by omega
      have hk0 : (0 : Int) ≤ (k : Int) := by omega
      rcases h.cells with h0 | ⟨b, off, rfl, hc⟩
      · omega
      obtain ⟨v, hcx0, a, c, rfl, hr0, hnil, hmx⟩ := hc k (by omega)
      have hbl := World.block_lt_of_cell? w _ hcx0
      have hcx : wr.cell? ⟨b, off + k, none⟩ = some (.slice a (ss.getD k []).length c) := (HB.out.cell (by exact hbl)).trans hcx0
      have hr := hid (hr0.below HB.out (Nat.le_refl _))
      have HT := hid (flat_step ss k (by omega))
      have HU := hid (tot_step ss k (by omega))
      have HV := hid (tot_take ss (k + 1))
      generalize ss.getD k [] = zs at *
      obtain ⟨z, hz⟩ : ∃ z, zs.length = z := ⟨_, rfl⟩
      rw [hz] at hcx hr HU
      have HZ := hid hz
      have hN : N + z ≤ 2097152 := by have := HU.out; have := HV.out; have := HN.out; omega
      clear hc hcx0 hr0 hz hmx
      rcases ha : a with _ | p2
      · subst ha
        obtain rfl := hnil rfl
        obtain rfl : z = 0 := by
          rcases hr.out.cells with h0 | ⟨b, off, e, _⟩
          · exact h0
          · cases e
        obtain rfl : zs = [] := List.eq_nil_of_length_eq_zero HZ.out
        go_wp2_with (at_builtin; refine wpList_append_own_none rfl _ _ 22 rfl w.heap.size 5 i0 1 Try.underlying22 hi _ _ _ rfl HO.out rfl ?_)
        go_roundw
        case rel => exact ⟨k + 1, N, a', c', by omega, by go_num, rfl, hid (by have := HU.out; have := HN.out; omega), hid (by rw [HT.out, List.append_nil]; exact HO.out), HB⟩
        case measure => simp [intOf]; omega
      · subst ha
        go_wp2_with (at_builtin; refine wpList_append_own _ rfl _ _ 22 rfl w.heap.size 5 i0 (.int .u8 0) 1 1 Try.underlying22 hi hz0 hz1 hz2 rfl (by decide) _ _ _ rfl HO.out p2 z c (bys zs) rfl ?k2 hr.out.news (bys_one _) ?k4 ?k5 HB.out.size ?_)
        case k2 => simp [bys_length, HZ.out]
        case k4 => unfold maxLen; omega
        case k5 => omega
        intro v' w' o' g' _
        have B' := hid (HB.out.grown g' HB.out.size (fun k hk => (HO.out.lt k hk).1))
        obtain ⟨a2, c2, rfl⟩ : ∃ a2 c2, v' = .slice a2 (N + z) c2 := by
          rcases o'.2 with ⟨e, e0⟩ | ⟨g, cap, cur, e, _⟩
          · exact ⟨none, 0, by rw [e, e0]⟩
          · exact ⟨_, cap, e⟩
        have O' := hid o'
        clear o' g'
        go_wp2
        go_roundw
        case rel => exact ⟨k + 1, N + z, a2, c2, by omega, by go_num, rfl, hid (by have := HU.out; have := HN.out; omega), hid (by rw [HT.out, bys_append]; exact O'.out), B'⟩
        case measure => simp [intOf]; omega
    · have hlt' : ¬ (k : Int) < (m : Int) := by omega
      go_wp2
      go_ret
      have e : ss.take k = ss := List.take_of_length_le (by omega)
      have o := HO.out
      have hN := HN.out
      rw [e] at o hN
      refine ⟨_, rfl, ?_, HB.out⟩
      rw [← hN]
      exact o
end Go.Proofs.Ytplbejipkaionaa
