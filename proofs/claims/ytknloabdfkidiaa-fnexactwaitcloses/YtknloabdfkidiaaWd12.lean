/- The contract of the specification's WaitFree. Conditions: at most 2^20 waits. -/
import Derived.Test.YtknloabdfkidiaaWc12
namespace Go.Proofs.Ytknloabdfkidiaa
open Go.RowKit
set_option maxRecDepth 100000

/-- What WaitFree tells: waits and numbers, each in memory of its own. -/
structure AnsF (w : World) (L : List Wt) (F : List Int) (e : Ending) (w' : World) : Prop where
  ex : ∃ a c a' c', e = .returned (.tuple #[.slice a L.length c, .slice a' F.length c']) ∧ w'.ownsRow w.heap.size 29 2 (.slice a L.length c) L.length (cellsW L) ∧ w'.ownsRow w.heap.size 3 1 (.slice a' F.length c') F.length (ins F) ∧ bdW L ∧ bdL F ∧ Below w.heap.size w w'
theorem bdW_snoc {L : List Wt} {p : Wt} (h : bdW L) (hp : i64b p.1 ∧ i64b p.2) : bdW (L ++ [p]) := by
  intro i
  rw [getD_app]
  split
  · exact h i
  · rcases getD_mem_or [p] (i - L.length) wt0 with e | e
    · rw [e]; simp [wt0]
    · rw [List.mem_singleton.1 e]; exact hp
theorem bdW_nil : bdW [] := fun i => by simp [wt0]
theorem bdL_nil : bdL [] := fun i => by simp
theorem take_snocW (l : List Wt) (k : Nat) (h : k < l.length) : l.take (k + 1) = l.take k ++ [l.getD k wt0] := by
  rw [List.take_add_one, List.getElem?_eq_getElem h, Option.toList_some]
  simp [List.getD, h]

set_option maxHeartbeats 6400000 in
theorem spec_WaitFree {ad : Option Addr} {n : Nat} (cap : Nat) {l : List Wt} {w : World} (h : ReadsW2 w ad n l) (hn : n ≤ 1048576) (x : Int) :
    Calls Try.prog 27 #[.slice ad n cap, .int .i64 x] w fun e w' => AnsF w (leftW l x) (freeW l x) e w' := by
  obtain ⟨i0, hi, hz0, hz1, hz2⟩ := info_parts infoI12
  obtain ⟨j0, hj, hj0, hj1, hj2⟩ := info_parts Try.infoWt
  have hl := h.len
  go_enter Try.func27, Try.ntmps27
  go_wp2_with fail
  refine (spec_WaitsOk cap h (by omega)).mono ?_
  rintro e w1 ⟨rfl, b1⟩
  have HB := hid b1
  clear b1
  cases hok : okW l with
  | false =>
    have e1 := hid (show leftW l x = [] by unfold leftW; rw [hok]; rfl)
    have e2 := hid (show freeW l x = [] by unfold freeW; rw [hok]; rfl)
    go_wp2_with fail
    go_ret2
    rw [e1.out, e2.out]
    exact ⟨none, 0, none, 0, rfl, World.ownsRow_nil _ _ _ _, World.ownsRow_nil _ _ _ _, bdW_nil, bdL_nil, HB.out⟩
  | true =>
    have E1 := hid (show leftW l x = l.filter (fun p => decide (p.2 ≠ x)) by unfold leftW; rw [hok]; rfl)
    have E2 := hid (show freeW l x = (l.filter (fun p => decide (p.2 = x))).map (·.1) by unfold freeW; rw [hok]; rfl)
    go_wp2_with fail
    go_loopw [6, 7, 8] (fun s6 s7 s8 wr => ∃ (k : Nat) (a : Option Addr) (p c : Nat) (a' : Option Addr) (q c' : Nat) (L : List Wt) (F : List Int), k ≤ n ∧ s8 = .int .i64 k ∧ s6 = .slice a p c ∧ s7 = .slice a' q c' ∧ p ≤ k ∧ q ≤ k ∧ L.length = p ∧ F.length = q ∧ Hid (L = (l.take k).filter (fun p => decide (p.2 ≠ x))) ∧ Hid (F = ((l.take k).filter (fun p => decide (p.2 = x))).map (·.1)) ∧ Hid (wr.ownsRow w.heap.size 29 2 (.slice a p c) p (cellsW L)) ∧ Hid (wr.ownsRow w.heap.size 3 1 (.slice a' q c') q (ins F)) ∧ Hid (bdW L) ∧ Hid (bdL F) ∧ Hid (Below w.heap.size w wr)) (fun _ _ i _ => n - (intOf i).toNat)
    case atStart => exact ⟨0, none, 0, 0, none, 0, 0, [], [], Nat.zero_le _, rfl, rfl, rfl, Nat.le_refl _, Nat.le_refl _, rfl, rfl, hid (by simp), hid (by simp), hid (World.ownsRow_nil _ _ _ _), hid (World.ownsRow_nil _ _ _ _), hid bdW_nil, hid bdL_nil, HB⟩
    case round =>
      clear HB
      obtain ⟨k, a, p, c, a', q, c', L, F, hk, rfl, rfl, rfl, hp, hq, hL, hF, EL, EF, OL, OF, BL, BF, HB⟩ := hrel
      by_cases hlt : k < n
      · have hlt' : (k : Int) < (n : Int) := by omega
        have hk0 : (0 : Int) ≤ (k : Int) := by omega
        obtain ⟨b, off, rfl, x0', x1'⟩ := h.at (k := k) hlt
        have bl := World.block_lt_of_cell? w _ x0'
        have c0 := (HB.out.cell (p := ⟨b, off + k * 2, none⟩) (by exact bl)).trans x0'
        have c1 := (HB.out.cell (p := ⟨b, off + k * 2 + 1, none⟩) (by exact bl)).trans x1'
        have HT := hid (take_snocW l k (by omega))
        have HBD := hid (show i64b (l.getD k wt0).1 ∧ i64b (l.getD k wt0).2 from h.bd k)
        generalize l.getD k wt0 = r at *
        obtain ⟨u, v⟩ := r
        simp only at c0 c1 HBD
        clear x0' x1' bl
        by_cases hvx : v = x
        · subst hvx
          have bA := Below.alloc1 wr (.cells #[.int .i64 u] 3)
          have HN := hid (heap_alloc_new wr (.cells #[.int .i64 u] 3))
          have OA := hid (owns_below bA (Nat.le_refl _) OF.out)
          have LA := hid (owns_below bA (Nat.le_refl _) OL.out)
          have BA := hid (HB.out.trans (bA.mono HB.out.size))
          have HZA := hid (alloc_size wr (.cells #[.int .i64 u] 3))
          clear bA
          go_wp2_with (at_builtin; refine wpList_append_row rfl _ _ 31 rfl w.heap.size 3 i0 (.int .i64 0) 1 8 Try.underlying31 hi hz0 hz1 hz2 rfl (by decide) _ q (ins F) rfl OA.out (some ⟨wr.heap.size, 0, none⟩) 1 1 [.int .i64 u] rfl rfl (.inr ⟨_, rfl, World.news_of_block HN.out⟩) (fun e => by cases e) ?k1 ?k2 ?k3 ?k4 ?_)
          case k1 => simp [Value.oneCell']
          case k2 => unfold maxLen; omega
          case k3 => omega
          case k4 => have := HZA.out; have := HB.out.size; omega
          intro a2 c2 w5 o1 hg
          have N1 := hid (show w5.ownsRow w.heap.size 3 1 (.slice a2 (q + 1) c2) (q + 1) (ins (F ++ [u])) by rw [ins_app]; exact o1)
          have N2 := hid (LA.out.kept hg (owns_ne LA.out OA.out (by decide)))
          have N3 := hid (BA.out.grown hg (by have := BA.out.size; omega) (fun r e => (OA.out.lt r e).1))
          have N4 := hid (show L = (l.take (k + 1)).filter (fun p => decide (p.2 ≠ v)) by rw [HT.out, List.filter_append, ← EL.out]; simp)
          have N5 := hid (show F ++ [u] = ((l.take (k + 1)).filter (fun p => decide (p.2 = v))).map (·.1) by rw [HT.out, List.filter_append, List.map_append, ← EF.out]; simp)
          clear o1 hg HN OA LA BA HZA OF OL HB c0 c1
          go_wp2_with fail
          go_roundw
          case rel => exact ⟨k + 1, a, p, c, a2, q + 1, c2, L, F ++ [u], by omega, by go_num, rfl, rfl, by omega, by omega, hL, by simp [hF], N4, N5, N2, N1, BL, hid (bdL_snoc BF.out HBD.out.1), N3⟩
          case measure => simp [intOf]; omega
        · have bA := Below.alloc1 wr (.cells #[.int .i64 u, .int .i64 v] 29)
          have HN := hid (heap_alloc_new wr (.cells #[.int .i64 u, .int .i64 v] 29))
          have OA := hid (owns_below bA (Nat.le_refl _) OL.out)
          have LA := hid (owns_below bA (Nat.le_refl _) OF.out)
          have BA := hid (HB.out.trans (bA.mono HB.out.size))
          have HZA := hid (alloc_size wr (.cells #[.int .i64 u, .int .i64 v] 29))
          clear bA
          go_wp2_with (at_builtin; refine wpList_append_row rfl _ _ 24 rfl w.heap.size 29 j0 (.agg #[.int .i64 0, .int .i64 0]) 2 16 Try.underlying24 hj hj0 hj1 hj2 rfl (by decide) _ p (cellsW L) rfl OA.out (some ⟨wr.heap.size, 0, none⟩) 1 1 [.int .i64 u, .int .i64 v] rfl rfl (.inr ⟨_, rfl, World.news_of_block HN.out⟩) (fun e => by cases e) ?m1 ?m2 ?m3 ?m4 ?_)
          case m1 => intro z hz; simp only [List.mem_cons, List.not_mem_nil, or_false] at hz; rcases hz with rfl | rfl <;> rfl
          case m2 => unfold maxLen; omega
          case m3 => omega
          case m4 => have := HZA.out; have := HB.out.size; omega
          intro a2 c2 w5 o1 hg
          have N1 := hid (show w5.ownsRow w.heap.size 29 2 (.slice a2 (p + 1) c2) (p + 1) (cellsW (L ++ [(u, v)])) by rw [cellsW_app]; exact o1)
          have N2 := hid (LA.out.kept hg (owns_ne LA.out OA.out (by decide)))
          have N3 := hid (BA.out.grown hg (by have := BA.out.size; omega) (fun r e => (OA.out.lt r e).1))
          have N4 := hid (show L ++ [(u, v)] = (l.take (k + 1)).filter (fun p => decide (p.2 ≠ x)) by rw [HT.out, List.filter_append, ← EL.out]; simp [hvx])
          have N5 := hid (show F = ((l.take (k + 1)).filter (fun p => decide (p.2 = x))).map (·.1) by rw [HT.out, List.filter_append, List.map_append, ← EF.out]; simp [hvx])
          clear o1 hg HN OA LA BA HZA OF OL HB c0 c1
          go_wp2_with fail
          go_roundw
          case rel => exact ⟨k + 1, a2, p + 1, c2, a', q, c', L ++ [(u, v)], F, by omega, by go_num, rfl, rfl, by omega, by omega, by simp [hL], hF, N4, N5, N1, N2, hid (bdW_snoc BL.out HBD.out), BF, N3⟩
          case measure => simp [intOf]; omega
      · have hlt' : ¬ (k : Int) < (n : Int) := by omega
        go_wp2_with fail
        go_ret2
        have e1 := EL.out
        have e2 := EF.out
        rw [List.take_of_length_le (by omega)] at e1 e2
        rw [E1.out, E2.out, ← e1, ← e2]
        subst hL hF
        exact ⟨a, c, a', c', rfl, OL.out, OF.out, BL.out, BF.out, HB.out⟩
end Go.Proofs.Ytknloabdfkidiaa
