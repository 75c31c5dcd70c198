/- The contracts of the program's waitingOf, has, wayFrom. Conditions: at most 2^20 waits. -/
import Derived.Test.YtknloabdfkidiaaWg12
namespace Go.Proofs.Ytknloabdfkidiaa
open Go.RowKit Go.Maps
set_option maxRecDepth 100000

theorem impl_has {w : World} {b n s : Nat} {f : Int → Option Int} (h : MpW w b n f s) (x : Int) (hx : i64b x) :
    Calls Try.prog 30 #[.map (some b), .int .i64 x] w fun e w' => e = .returned (.bool (f x).isSome) ∧ w' = w := by
  have HH := hid h
  clear h
  go_enter Try.func30, Try.ntmps30
  go_wp2_with (at_lookup; refine wp_look_ok rfl _ _ rfl b n s f rfl HH.out x rfl hx ?_)
  go_ret
  exact ⟨rfl, rfl⟩
theorem impl_has_nil (w : World) (x : Int) (hx : i64b x) :
    Calls Try.prog 30 #[.map none, .int .i64 x] w fun e w' => e = .returned (.bool false) ∧ w' = w := by
  have HH := look_nil12 x hx
  go_enter Try.func30, Try.ntmps30
  go_wp2_with fail
  go_ret
  exact ⟨rfl, rfl⟩

theorem okW_of_take {l : List Wt} {n : Nat} (hl : l.length = n) (hn : n ≤ 64) (h : (l.map (·.1)).Nodup) : okW l = true := okW_yes (by omega) h

set_option maxHeartbeats 1600000 in
theorem impl_waitingOf {ad : Option Addr} {n : Nat} (cap : Nat) {l : List Wt} {w : World} (h : ReadsW2 w ad n l) (hn : n ≤ 1048576) :
    Calls Try.prog 29 #[.slice ad n cap] w fun e w' => Below w.heap.size w w' ∧ ((okW l = true ∧ ∃ b s, e = .returned (.tuple #[.map (some b), .bool true]) ∧ w.heap.size ≤ b ∧ MpW w' b n (nextW l) s) ∨ (okW l = false ∧ e = .returned (.tuple #[.map none, .bool false]))) := by
  have hl := h.len
  by_cases hbig : 64 < n
  · have q : (64 : Int) < (n : Int) := by omega
    have HO := hid (okW_long (l := l) (by omega))
    clear h
    go_enter Try.func29, Try.ntmps29
    go_wp2_with fail
    go_ret2
    exact ⟨Below.refl _ _, .inr ⟨HO.out, rfl⟩⟩
  have q : ¬ (64 : Int) < (n : Int) := by omega
  have hmm := run_makeWaits
  have B0 := hid (Below.alloc1 w (.map #[] 0))
  have M0 := hid (MpW.made w)
  have Z0 := hid (show (w.alloc (.map #[] 0)).heap.size = w.heap.size + 1 from alloc_size _ _)
  go_enter Try.func29, Try.ntmps29
  go_wp2_with fail
  clear hmm
  generalize w.alloc (.map #[] 0) = W at *
  go_loopw [6, 15] (fun _ i wr => ∃ (k s : Nat), k ≤ n ∧ i = .int .i64 k ∧ s ≤ k ∧ Hid (MpW wr w.heap.size k (mapL (l.take k)) s) ∧ Hid (((l.take k).map (·.1)).Nodup ↔ s = k) ∧ Hid (Below w.heap.size w wr)) (fun _ i _ => n - (intOf i).toNat)
  case atStart => exact ⟨0, 0, Nat.zero_le _, rfl, Nat.le_refl _, M0, hid (by simp), B0⟩
  case round =>
    clear M0 B0 Z0
    obtain ⟨k, s, hk, rfl, hs, HM, HN, HB⟩ := hrel
    by_cases hlt : k < n
    · have hlt' : (k : Int) < (n : Int) := by omega
      have hk0 : (0 : Int) ≤ (k : Int) := by omega
      obtain ⟨b, off, rfl, x0', x1'⟩ := h.at (k := k) hlt
      have bl := World.block_lt_of_cell? w _ x0'
      have c0 := (HB.out.cell (p := ⟨b, off + k * 2, none⟩) (by exact bl)).trans x0'
      have c1 := (HB.out.cell (p := ⟨b, off + k * 2 + 1, none⟩) (by exact bl)).trans x1'
      have HT := hid (take_snocW l k (by omega))
      have HBD := hid (show i64b (l.getD k wt0).1 ∧ i64b (l.getD k wt0).2 from h.bd k)
      generalize l.getD k wt0 = r at *
      obtain ⟨u, v⟩ := r
      simp only at c0 c1 HBD
      clear x0' x1' bl
      have bA := Below.alloc1 wr (.cells #[.int .i64 u, .int .i64 v] 29)
      have HMA := hid (HM.out.below bA)
      have BA := hid (HB.out.trans (bA.mono HB.out.size))
      clear bA HM
      go_wp2_with (at_mapUpdate; refine wp_upd rfl _ _ _ rfl w.heap.size k s _ rfl HMA.out (by unfold maxLen; omega) u v rfl rfl HBD.out.1 HBD.out.2 ?_; intro w1 M1 g1)
      have N1 := hid (show MpW w1 w.heap.size (k + 1) (mapL (l.take (k + 1))) (if (mapL (l.take k) u).isSome then s else s + 1) by rw [HT.out, mapL_snoc]; exact M1)
      have N3 := hid (BA.out.grown g1 BA.out.size (fun j hj => by cases hj; exact Nat.le_refl _))
      have N2 := hid (show ((l.take (k + 1)).map (·.1)).Nodup ↔ (if (mapL (l.take k) u).isSome then s else s + 1) = k + 1 by
        rw [HT.out, List.map_append, List.nodup_append, mapL_isSome]
        have hi := HN.out
        by_cases hm : u ∈ (l.take k).map (·.1)
        · rw [decide_eq_true hm, if_pos rfl]
          constructor
          · intro q
            exact absurd rfl (q.2.2 u hm u (by simp))
          · intro q; omega
        · rw [decide_eq_false hm, if_neg (by simp)]
          constructor
          · intro q
            have := hi.1 q.1
            omega
          · intro q
            refine ⟨hi.2 (by omega), by simp, fun a ha b hb e => ?_⟩
            simp at hb
            subst hb; subst e
            exact hm ha)
      have hs2 : (if (mapL (l.take k) u).isSome then s else s + 1) ≤ k + 1 := by split <;> omega
      generalize (if (mapL (l.take k) u).isSome then s else s + 1) = s2 at *
      clear M1 g1 HMA BA HB HN HT c0 c1
      go_roundw
      case rel => exact ⟨k + 1, s2, by omega, by go_num, hs2, N1, N2, N3⟩
      case measure => simp [intOf]; omega
    · have hlt' : ¬ (k : Int) < (n : Int) := by omega
      have hkn : k = n := by omega
      subst hkn
      by_cases hsk : s = k
      · subst hsk
        have qq : ((s : Int) != (s : Int)) = false := by simp
        go_wp2_with (at_len; refine wp_len12 rfl _ rfl w.heap.size s s _ rfl HM.out ?_)
        go_ret2
        have e1 := HN.out.2 (by first | rfl | trivial)
        have e2 := HM.out
        rw [List.take_of_length_le (by omega)] at e1 e2
        have hok := okW_of_take hl (by omega) e1
        rw [mapL_next hok] at e2
        refine ⟨HB.out, .inl ⟨hok, ?_⟩⟩
        exact ⟨_, rfl, Nat.le_refl _, _, e2⟩
      · have qq : ((s : Int) != (k : Int)) = true := by simp; omega
        go_wp2_with (at_len; refine wp_len12 rfl _ rfl w.heap.size k s _ rfl HM.out ?_)
        go_ret2
        have e1 := HN.out
        rw [List.take_of_length_le (by omega)] at e1
        refine ⟨HB.out, .inr ⟨?_, rfl⟩⟩
        unfold okW
        exact decide_eq_false (fun q => hsk (e1.1 q.2))
end Go.Proofs.Ytknloabdfkidiaa
