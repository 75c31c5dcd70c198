/- The contracts of the laws' toByteSS, toWrite, toWriteS, toDisk: the same disk with memory of its own. Conditions: lists of at most 2^21. -/
import Derived.Test.YtnnnehjlegjejaaDoorDm
import Derived.Laws.Tables
namespace Go.Proofs.YtnnnehjlegjejaaDoor
open Go.RowKit

theorem toList_madeCells_one' (z : Value) (n : Nat) : (madeCells #[z] n).toList = List.replicate n z := toList_madeCells_one z n
theorem rep_drop (xs : List Value) (k n : Nat) (z v : Value) (hx : xs.length = k) (hk : k < n) : (xs ++ List.replicate (n - k) z).set k v = (xs ++ [v]) ++ List.replicate (n - (k + 1)) z := by
  rw [List.set_append_right _ _ (by omega), hx, Nat.sub_self, show n - k = (n - (k + 1)) + 1 by omega, List.replicate_succ, List.set_cons_zero]
  simp
theorem take_snoc {α : Type} (xs : List α) (k : Nat) (d : α) (h : k < xs.length) : xs.take (k + 1) = xs.take k ++ [xs.getD k d] := by
  rw [List.take_add_one, List.getElem?_eq_getElem h, Option.toList_some]
  simp [List.getD, h]

set_option maxRecDepth 100000 in
set_option maxHeartbeats 1600000 in
theorem toByteSS {ad : Option Addr} {n : Nat} (cap : Nat) {ss : List (List Int)} {w : World} (h : ReadsS w ad ss) (hl : ss.length = n) (hn : n ≤ 2097152) (hb : ∀ i, (ss.getD i []).length ≤ 2097152) :
    Calls Tryd.prog 47 #[.slice ad n cap] w fun e w' => ∃ xs, e = .returned (.slice (some ⟨w.heap.size, 0, none⟩) n n) ∧ w'.ownsRow w.heap.size 22 1 (.slice (some ⟨w.heap.size, 0, none⟩) n n) n xs ∧ Bands w' w.heap.size w'.heap.size xs ss ∧ Below w.heap.size w w' := by
  obtain ⟨i0, hi, hz0, hz1, hz2⟩ := info_parts Tryd.info22
  go_enter Tryd.func47, Tryd.ntmps47
  go_wp2_with (at_make; refine wpList_make_full _ rfl _ _ 24 rfl w.heap.size 22 i0 (.slice none 0 0) 1 Tryd.underlying24 hi hz0 hz1 _ _ _ _ n rfl rfl (by omega) (by omega) ?b2 ?b3 (Nat.le_refl _) ?_)
  case b2 => rw [hz2]; omega
  case b3 => unfold maxLen; omega
  intro w0 hown0 hgrow0
  go_wp2
  go_loopw [4] (fun i wr => ∃ (k : Nat) (xs : List Value), k ≤ n ∧ i = .int .i64 k ∧ xs.length = k ∧ Hid (wr.ownsRow w.heap.size 22 1 (.slice (some ⟨w.heap.size, 0, none⟩) n n) n (xs ++ List.replicate (n - k) nilS)) ∧ Hid (Bands wr w.heap.size wr.heap.size xs (ss.take k)) ∧ Hid (Below w.heap.size w wr))
    (fun i _ => n - (intOf i).toNat)
  case atStart =>
    refine ⟨0, [], Nat.zero_le _, rfl, rfl, hid ?_, hid (by rw [List.take_zero]; exact Bands.nil _ _ _), hid ((Below.refl _ _).grown hgrow0 (Nat.le_refl _) (fun k h => by cases h))⟩
    rw [toList_madeCells_one] at hown0
    simpa [nilS] using hown0
  case round =>
    obtain ⟨k, xs, hk, rfl, hx, hown, hB, hnx⟩ := hrel
    by_cases hlt : k < n
    · have hlt' : (k : Int) < (n : Int) := by omega
      rcases h.cells with h0 | ⟨b, off, rfl, hc⟩
      · omega
      obtain ⟨v, hcx0, a, c, rfl, hr0, hnil, hmx⟩ := hc k (by omega)
      have hbl := World.block_lt_of_cell? w _ hcx0
      have hcx : wr.cell? ⟨b, off + k, none⟩ = some (.slice a (ss.getD k []).length c) := (hnx.out.cell (by exact hbl)).trans hcx0
      have hr := hid (hr0.below hnx.out (Nat.le_refl _))
      have hlen := hb k
      have HT := hid (take_snoc ss k [] (by omega))
      have Hbd := hid hr0.bd
      generalize ss.getD k [] = zs at *
      obtain ⟨m, hm⟩ : ∃ m, zs.length = m := ⟨_, rfl⟩
      rw [hm] at hcx hlen hr
      have HM := hid hm
      clear hc hcx0 hr0 hnil hmx hm hown0 hgrow0
      go_wp2_with fail
      refine (toByteS_any c hr.out (by omega)).mono ?_
      rintro e w1 ⟨rfl, o, b1⟩
      have hown1 := owns_below b1 (by have := hnx.out.size; omega) hown.out
      have hcy : ∃ v, w1.cell? ⟨w.heap.size, k, none⟩ = some v := by
        rw [hown1.cellAt k (by omega)]
        exact ⟨_, List.getElem?_eq_getElem (by simp; omega)⟩
      obtain ⟨v, hcy⟩ := hcy
      have hfr : w1.frozen? ⟨w.heap.size, k, none⟩ = false := hown1.frozenAt k
      have R := hown1.stored k (.slice (some ⟨wr.heap.size, 0, none⟩) m m)
      rw [rep_drop xs k n nilS _ hx hlt] at R
      have hB1 : Bands w1 w.heap.size w1.heap.size (xs ++ [.slice (some ⟨wr.heap.size, 0, none⟩) m m]) (ss.take (k + 1)) := by
        rw [HT.out]
        exact (hB.out.agree (Agree.below b1 (Nat.le_refl _))).snoc (by have := hnx.out.size; omega) b1.size (by rw [HM.out]; exact o) Hbd.out (Nat.le_refl _)
      have hB2 := hid (hB1.beside R.2 (fun i => owns_ne (hB1.own i) hown1 (by decide)))
      have R1 := hid R
      have B2 := hid ((hnx.out.trans (b1.mono hnx.out.size)).setCell (p := ⟨w.heap.size, k, none⟩) (Nat.le_refl _) (.slice (some ⟨wr.heap.size, 0, none⟩) m m))
      clear R hB1 hown1 o b1
      go_wp2_with fail
      go_roundw
      case rel => exact ⟨k + 1, xs ++ [.slice (some ⟨wr.heap.size, 0, none⟩) m m], by omega, by go_num, by simp [hx], hid R1.out.1, hid (by simpa using hB2.out), hid B2.out⟩
      case measure => simp [intOf]; omega
    · go_wp2
      go_ret
      have hkn : k = n := by omega
      subst hkn
      refine ⟨xs, rfl, ?_, ?_, hnx.out⟩
      · have := hown.out
        simpa using this
      · have := hB.out
        rw [List.take_of_length_le (by omega)] at this
        exact this
end Go.Proofs.YtnnnehjlegjejaaDoor
