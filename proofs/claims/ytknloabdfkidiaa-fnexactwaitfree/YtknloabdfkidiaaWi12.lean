/- The contracts of the program's wayFrom, free, stillOf. Conditions: at most 2^20 waits. -/
import Derived.Test.YtknloabdfkidiaaWh12
import Derived.Test.YtknloabdfkidiaaPs
namespace Go.Proofs.Ytknloabdfkidiaa
open Go.RowKit Go.Maps
set_option maxRecDepth 100000

theorem impl_wayFrom_nil (w : World) (y : Int) (hy : i64b y) :
    Calls Try.prog 31 #[.map none, .int .i64 y] w fun e w' => e = .returned (.tuple #[.slice none 0 0, .int .i64 y]) ∧ w' = w := by
  go_enter Try.func31, Try.ntmps31
  go_wp2_with fail
  go_loopw [1, 6] (fun x v wr => x = .int .i64 y ∧ v = .slice none 0 0 ∧ wr = w) (fun _ _ _ => 0)
  case atStart => exact ⟨rfl, rfl, rfl⟩
  case round =>
    obtain ⟨rfl, rfl, rfl⟩ := hrel
    go_wp2_with fail
    refine (impl_has_nil _ y hy).mono ?_
    rintro e w1 ⟨rfl, e1⟩
    subst w1
    go_wp2_with fail
    go_ret2
    exact ⟨rfl, rfl⟩

set_option maxHeartbeats 3200000 in
theorem impl_wayFrom {w0 w : World} {l : List Wt} (hbd : bdW l) (hll : l.length ≤ 64) {b n s : Nat} (h : MpW w b n (nextW l) s) (hb : w0.heap.size ≤ b) (hB : Below w0.heap.size w0 w) (y : Int) (hy : i64b y) :
    Calls Try.prog 31 #[.map (some b), .int .i64 y] w fun e w' => ∃ (v : Value) (Y : List Int) (x : Int), e = .returned (.tuple #[v, .int .i64 x]) ∧ w'.ownsRow w0.heap.size 3 1 v Y.length (ins Y) ∧ bdL Y ∧ WayP l y Y x ∧ endW l Y x ∧ Below w0.heap.size w0 w' := by
  obtain ⟨i0, hi, hz0, hz1, hz2⟩ := info_parts infoI12
  have HM0 := hid h
  have HB0 := hid hB
  have HBB := hid hb
  clear h hB hb
  go_enter Try.func31, Try.ntmps31
  go_wp2_with fail
  go_loopw [1, 6] (fun sx sv wr => ∃ (x : Int) (a : Option Addr) (c m : Nat) (Y : List Int) (s' : Nat), sx = .int .i64 x ∧ sv = .slice a m c ∧ Y.length = m ∧ Hid (i64b x) ∧ Hid (wr.ownsRow w0.heap.size 3 1 (.slice a m c) m (ins Y)) ∧ Hid (bdL Y) ∧ Hid (WayP l y Y x) ∧ Hid (MpW wr b n (rem Y (nextW l)) s') ∧ Hid (Below w0.heap.size w0 wr)) (fun _ sv _ => 65 - (match sv with | .slice _ m _ => m | _ => 0))
  case atStart => exact ⟨y, none, 0, 0, [], s, rfl, rfl, rfl, hid hy, hid (World.ownsRow_nil _ _ _ _), hid bdL_nil, hid (WayP.nil l y), hid (by rw [rem_nil]; exact HM0.out), HB0⟩
  case round =>
    clear HM0 HB0
    obtain ⟨x, a, c, m, Y, s', rfl, rfl, hm, HX, HO, HBD, HW, HM, HB⟩ := hrel
    have hY : m ≤ 64 := by have := HW.out.len; omega
    go_wp2_with fail
    refine (impl_has HM.out x HX.out).mono ?_
    rintro e w1 ⟨rfl, e1⟩
    subst w1
    cases hnx : rem Y (nextW l) x with
    | none =>
      have HE := hid (show endW l Y x from hnx)
      clear hnx
      go_wp2_with fail
      go_ret2
      subst hm
      exact ⟨_, Y, _, rfl, HO.out, HBD.out, HW.out, HE.out, HB.out⟩
    | some z =>
      have hxY : x ∉ Y := by
        intro q
        unfold rem at hnx
        rw [if_pos q] at hnx
        cases hnx
      have hnw : nextW l x = some z := by
        unfold rem at hnx
        rw [if_neg hxY] at hnx
        exact hnx
      have HN := hid (HW.out.snoc hxY hnw)
      have HZ := hid (next_bd hbd hnw)
      have HG := hid (show (rem Y (nextW l) x).getD 0 = z by rw [hnx]; rfl)
      have hY2 : m + 1 ≤ 64 := by have := HN.out.len; simp at this; omega
      clear hnx hxY hnw
      have bA := Below.alloc1 wr (.cells #[.int .i64 x] 3)
      have HNW := hid (heap_alloc_new wr (.cells #[.int .i64 x] 3))
      have OA := hid (owns_below bA (Nat.le_refl _) HO.out)
      have MA := hid (HM.out.below bA)
      have BA := hid (HB.out.trans (bA.mono HB.out.size))
      have HZA := hid (alloc_size wr (.cells #[.int .i64 x] 3))
      clear bA
      go_wp2_with (at_builtin; refine wpList_append_row rfl _ _ 31 rfl w0.heap.size 3 i0 (.int .i64 0) 1 8 Try.underlying31 hi hz0 hz1 hz2 rfl (by decide) _ m (ins Y) rfl OA.out (some ⟨wr.heap.size, 0, none⟩) 1 1 [.int .i64 x] rfl rfl (.inr ⟨_, rfl, World.news_of_block HNW.out⟩) (fun e => by cases e) ?k1 ?k2 ?k3 ?k4 ?_)
      case k1 => simp [Value.oneCell']
      case k2 => unfold maxLen; omega
      case k3 => omega
      case k4 => have := HZA.out; have := HB.out.size; omega
      intro a2 c2 w5 o1 hg
      have N1 := hid (show w5.ownsRow w0.heap.size 3 1 (.slice a2 (m + 1) c2) (m + 1) (ins (Y ++ [x])) by rw [ins_app]; exact o1)
      have N2 := hid (MA.out.kept hg (fun e => MA.out.ne_row OA.out e.symm))
      have N3 := hid (BA.out.grown hg (by have := BA.out.size; omega) (fun r e => (OA.out.lt r e).1))
      clear o1 hg HNW OA MA BA HZA HO HM HB
      go_wp2_with (first | (at_lookup; refine wp_look rfl _ _ rfl b n s' _ rfl N2.out x rfl HX.out ?_) | (at_delete; refine wp_drop rfl _ _ rfl b n s' _ rfl N2.out x rfl HX.out ?_; intro w6 s6 m6 g6))
      rw [HG.out]
      have M1 := hid (show w6.ownsRow w0.heap.size 3 1 (.slice a2 (m + 1) c2) (m + 1) (ins (Y ++ [x])) from own_other N1.out g6 (fun k e q => N2.out.ne_row N1.out (e.trans q.symm)))
      have M2 := hid (show MpW w6 b n (rem (Y ++ [x]) (nextW l)) s6 by rw [rem_snoc]; exact m6)
      have M3 := hid (N3.out.grown g6 N3.out.size (fun j hj => by cases hj; exact HBB.out))
      have M4 := hid (bdL_snoc HBD.out HX.out)
      clear m6 g6 N1 N2 N3
      go_roundw
      case rel => exact ⟨z, a2, c2, m + 1, Y ++ [x], s6, rfl, rfl, by simp [hm], HZ, M1, M4, HN, M2, M3⟩
      case measure => simp; omega

def freeL (l : List Wt) (y : Int) : List Int := (l.filter (fun p => decide (p.2 = y))).map (·.1)
def stillL (l : List Wt) (f : Int → Option Int) : List Wt := l.filter (fun p => (f p.1).isSome)
set_option maxHeartbeats 3200000 in
theorem impl_free {w0 w : World} {ad : Option Addr} {k0 : Nat} (cap : Nat) {l : List Wt} (h : ReadsW2 w0 ad k0 l) (hk0 : k0 ≤ 1048576) {b n s : Nat} {f : Int → Option Int} (hM : MpW w b n f s) (hb : w0.heap.size ≤ b) (hB : Below w0.heap.size w0 w) (y : Int) :
    Calls Try.prog 32 #[.map (some b), .slice ad k0 cap, .int .i64 y] w fun e w' => ∃ (a : Option Addr) (c : Nat), e = .returned (.slice a (freeL l y).length c) ∧ w'.ownsRow w0.heap.size 3 1 (.slice a (freeL l y).length c) (freeL l y).length (ins (freeL l y)) ∧ bdL (freeL l y) ∧ (∃ s', MpW w' b n (rem (freeL l y) f) s') ∧ Below w0.heap.size w0 w' := by
  obtain ⟨i0, hi, hz0, hz1, hz2⟩ := info_parts infoI12
  have hl := h.len
  have HM0 := hid hM
  have HB0 := hid hB
  have HBB := hid hb
  clear hM hB hb
  go_enter Try.func32, Try.ntmps32
  go_wp2_with fail
  go_loopw [7, 9, 12] (fun s7 _ i wr => ∃ (k : Nat) (a : Option Addr) (q c : Nat) (F : List Int) (s' : Nat), k ≤ k0 ∧ i = .int .i64 k ∧ s7 = .slice a q c ∧ q ≤ k ∧ F.length = q ∧ Hid (F = ((l.take k).filter (fun p => decide (p.2 = y))).map (·.1)) ∧ Hid (wr.ownsRow w0.heap.size 3 1 (.slice a q c) q (ins F)) ∧ Hid (bdL F) ∧ Hid (MpW wr b n (rem F f) s') ∧ Hid (Below w0.heap.size w0 wr)) (fun _ _ i _ => k0 - (intOf i).toNat)
  case atStart => exact ⟨0, none, 0, 0, [], s, Nat.zero_le _, rfl, rfl, Nat.le_refl _, rfl, hid (by simp), hid (World.ownsRow_nil _ _ _ _), hid bdL_nil, hid (by rw [rem_nil]; exact HM0.out), HB0⟩
  case round =>
    clear HM0 HB0
    obtain ⟨k, a, q, c, F, s', hk, rfl, rfl, hq, hF, EF, OF, BF, HM, HB⟩ := hrel
    by_cases hlt : k < k0
    · have hlt' : (k : Int) < (k0 : Int) := by omega
      have hkz : (0 : Int) ≤ (k : Int) := by omega
      obtain ⟨g, off, rfl, x0', x1'⟩ := h.at (k := k) hlt
      have bl := World.block_lt_of_cell? w0 _ x0'
      have c0 := (HB.out.cell (p := ⟨g, off + k * 2, none⟩) (by exact bl)).trans x0'
      have c1 := (HB.out.cell (p := ⟨g, off + k * 2 + 1, none⟩) (by exact bl)).trans x1'
      have HT := hid (take_snocW l k (by omega))
      have HBD := hid (show i64b (l.getD k wt0).1 ∧ i64b (l.getD k wt0).2 from h.bd k)
      generalize l.getD k wt0 = r at *
      obtain ⟨u, v⟩ := r
      simp only at c0 c1 HBD
      clear x0' x1' bl
      have bA := Below.alloc1 wr (.cells #[.int .i64 u, .int .i64 v] 29)
      have HNW := hid (heap_alloc_new wr (.cells #[.int .i64 u, .int .i64 v] 29))
      have OA := hid (owns_below bA (Nat.le_refl _) OF.out)
      have MA := hid (HM.out.below bA)
      have BA := hid (HB.out.trans (bA.mono HB.out.size))
      have HZA := hid (alloc_size wr (.cells #[.int .i64 u, .int .i64 v] 29))
      have HS := hid (show w0.heap.size ≤ wr.heap.size from HB.out.size)
      have hbn : b ≠ wr.heap.size := by have := HM.out.lt; omega
      clear bA OF HM HB
      by_cases hvy : v = y
      · subst hvy
        have N5 := hid (show F ++ [u] = ((l.take (k + 1)).filter (fun p => decide (p.2 = v))).map (·.1) by rw [HT.out, List.filter_append, List.map_append, ← EF.out]; simp)
        go_wp2_with (first | (at_delete; refine wp_drop rfl _ _ rfl b n s' _ rfl MA.out u rfl HBD.out.1 ?_; intro w6 s6 m6 g6; have d0 : w6.heap[wr.heap.size]? = some (.cells #[.int .i64 u, .int .i64 v] 29 (0, 0)) := (g6.block _ (by have := HZA.out; omega) (by intro e; injection e with e; exact hbn e.symm)).trans HNW.out; have e0 : w6.cell? ⟨wr.heap.size, 0, none⟩ = some (.int .i64 u) := (cell_of_row _ _ _ _ _ _ d0).trans rfl; have z6 := g6.size; have O6 := own_other OA.out g6 (fun k e q => MA.out.ne_row OA.out (e.trans q.symm)); have B6 := BA.out.grown g6 BA.out.size (fun j hj => by cases hj; exact HBB.out); have bA := Below.alloc1 w6 (.cells #[.int .i64 u] 3); have HN6 := hid (heap_alloc_new w6 (.cells #[.int .i64 u] 3)); have OA6 := hid (owns_below bA (Nat.le_refl _) O6); have MA6 := hid (m6.below bA); have BA6 := hid (B6.trans (bA.mono B6.size)); have HZ6 := hid (alloc_size w6 (.cells #[.int .i64 u] 3)); have HS6 := hid B6.size; clear bA d0 O6 B6 z6 m6 g6 OA MA BA HZA HNW) | (at_builtin; refine wpList_append_row rfl _ _ 31 rfl w0.heap.size 3 i0 (.int .i64 0) 1 8 Try.underlying31 hi hz0 hz1 hz2 rfl (by decide) _ q (ins F) rfl OA6.out (some ⟨w6.heap.size, 0, none⟩) 1 1 [.int .i64 u] rfl rfl (.inr ⟨_, rfl, World.news_of_block HN6.out⟩) (fun e => by cases e) ?k1 ?k2 ?k3 ?k4 ?_))
        case k1 => simp [Value.oneCell']
        case k2 => unfold maxLen; omega
        case k3 => omega
        case k4 => have := HZ6.out; have := HS6.out; omega
        intro a2 c2 w5 o1 hg
        have N1 := hid (show w5.ownsRow w0.heap.size 3 1 (.slice a2 (q + 1) c2) (q + 1) (ins (F ++ [u])) by rw [ins_app]; exact o1)
        have N2 := hid (show MpW w5 b n (rem (F ++ [u]) f) s6 by rw [rem_snoc]; exact MA6.out.kept hg (fun e => MA6.out.ne_row OA6.out e.symm))
        have N3 := hid (BA6.out.grown hg (by have := BA6.out.size; omega) (fun r e => (OA6.out.lt r e).1))
        clear o1 hg HN6 OA6 MA6 BA6 HZ6 HS6 c0 c1 e0
        go_wp2_with fail
        go_roundw
        case rel => exact ⟨k + 1, a2, q + 1, c2, F ++ [u], s6, by omega, by go_num, rfl, by omega, by simp [hF], N5, N1, hid (bdL_snoc BF.out HBD.out.1), N2, N3⟩
        case measure => simp [intOf]; omega
      · have N5 := hid (show F = ((l.take (k + 1)).filter (fun p => decide (p.2 = y))).map (·.1) by rw [HT.out, List.filter_append, List.map_append, ← EF.out]; simp [hvy])
        go_wp2_with fail
        go_roundw
        case rel => exact ⟨k + 1, a, q, c, F, s', by omega, by go_num, rfl, by omega, hF, N5, OA, BF, MA, BA⟩
        case measure => simp [intOf]; omega
    · have hlt' : ¬ (k : Int) < (k0 : Int) := by omega
      go_wp2_with fail
      go_ret
      have e2 : F = freeL l y := by have := EF.out; rw [List.take_of_length_le (by omega)] at this; exact this
      subst hF
      rw [← e2]
      exact ⟨a, c, rfl, OF.out, BF.out, ⟨s', HM.out⟩, HB.out⟩

set_option maxHeartbeats 3200000 in
theorem impl_stillOf {w : World} {ad : Option Addr} {k0 : Nat} (cap : Nat) {l : List Wt} (h : ReadsW2 w ad k0 l) (hk0 : k0 ≤ 1048576) {b n s : Nat} {f : Int → Option Int} (hM : MpW w b n f s) :
    Calls Try.prog 33 #[.map (some b), .slice ad k0 cap] w fun e w' => ∃ (a : Option Addr) (c : Nat), e = .returned (.slice a (stillL l f).length c) ∧ w'.ownsRow w.heap.size 29 2 (.slice a (stillL l f).length c) (stillL l f).length (cellsW (stillL l f)) ∧ bdW (stillL l f) ∧ Below w.heap.size w w' := by
  obtain ⟨j0, hj, hj0, hj1, hj2⟩ := info_parts Try.infoWt
  have hl := h.len
  have HM0 := hid hM
  clear hM
  go_enter Try.func33, Try.ntmps33
  go_wp2_with fail
  go_loopw [5, 7, 10] (fun s5 _ i wr => ∃ (k : Nat) (a : Option Addr) (p c : Nat) (L : List Wt), k ≤ k0 ∧ i = .int .i64 k ∧ s5 = .slice a p c ∧ p ≤ k ∧ L.length = p ∧ Hid (L = (l.take k).filter (fun p => (f p.1).isSome)) ∧ Hid (wr.ownsRow w.heap.size 29 2 (.slice a p c) p (cellsW L)) ∧ Hid (bdW L) ∧ Hid (Below w.heap.size w wr)) (fun _ _ i _ => k0 - (intOf i).toNat)
  case atStart => exact ⟨0, none, 0, 0, [], Nat.zero_le _, rfl, rfl, Nat.le_refl _, rfl, hid (by simp), hid (World.ownsRow_nil _ _ _ _), hid bdW_nil, hid (Below.refl _ _)⟩
  case round =>
    obtain ⟨k, a, p, c, L, hk, rfl, rfl, hp, hL, EL, OL, BL, HB⟩ := hrel
    by_cases hlt : k < k0
    · have hlt' : (k : Int) < (k0 : Int) := by omega
      have hkz : (0 : Int) ≤ (k : Int) := by omega
      obtain ⟨g, off, rfl, x0', x1'⟩ := h.at (k := k) hlt
      have bl := World.block_lt_of_cell? w _ x0'
      have c0 := (HB.out.cell (p := ⟨g, off + k * 2, none⟩) (by exact bl)).trans x0'
      have c1 := (HB.out.cell (p := ⟨g, off + k * 2 + 1, none⟩) (by exact bl)).trans x1'
      have HT := hid (take_snocW l k (by omega))
      have HBD := hid (show i64b (l.getD k wt0).1 ∧ i64b (l.getD k wt0).2 from h.bd k)
      generalize l.getD k wt0 = r at *
      obtain ⟨u, v⟩ := r
      simp only at c0 c1 HBD
      clear x0' x1' bl
      have bA := Below.alloc1 wr (.cells #[.int .i64 u, .int .i64 v] 29)
      have HNW := heap_alloc_new wr (.cells #[.int .i64 u, .int .i64 v] 29)
      have OA := hid (owns_below bA (Nat.le_refl _) OL.out)
      have BA := hid (HB.out.trans (bA.mono HB.out.size))
      have MA := hid (HM0.out.below BA.out)
      have HZA := hid (alloc_size wr (.cells #[.int .i64 u, .int .i64 v] 29))
      have HS := hid (show w.heap.size ≤ wr.heap.size from HB.out.size)
      have d0 : (wr.alloc (.cells #[.int .i64 u, .int .i64 v] 29)).cell? ⟨wr.heap.size, 0, none⟩ = some (.int .i64 u) := by rw [cell_of_row _ _ _ _ _ _ HNW]; rfl
      have d1 : (wr.alloc (.cells #[.int .i64 u, .int .i64 v] 29)).cell? ⟨wr.heap.size, 1, none⟩ = some (.int .i64 v) := by rw [cell_of_row _ _ _ _ _ _ HNW]; rfl
      have D0 := hid d0
      have D1 := hid d1
      clear bA OL HB HNW d0 d1
      go_wp2_with fail
      refine (impl_has MA.out u HBD.out.1).mono ?_
      rintro e w1 ⟨rfl, e1⟩
      subst w1
      have d0 := D0.out
      have d1 := D1.out
      clear c0 c1 D0 D1
      generalize wr.alloc (.cells #[.int .i64 u, .int .i64 v] 29) = V at *
      obtain ⟨G, hG⟩ : ∃ G, wr.heap.size = G := ⟨_, rfl⟩
      rw [hG] at d0 d1 ⊢
      replace HZA := hid (show V.heap.size = G + 1 by rw [HZA.out, hG])
      replace HS := hid (show w.heap.size ≤ G by rw [← hG]; exact HS.out)
      clear hG
      cases hfu : (f u).isSome with
      | true =>
        have bA := Below.alloc1 V (.cells #[.int .i64 u, .int .i64 v] 29)
        have HN6 := hid (heap_alloc_new V (.cells #[.int .i64 u, .int .i64 v] 29))
        have OA6 := hid (owns_below bA (Nat.le_refl _) OA.out)
        have BA6 := hid (BA.out.trans (bA.mono BA.out.size))
        have HZ6 := hid (alloc_size V (.cells #[.int .i64 u, .int .i64 v] 29))
        have N5 := hid (show L ++ [(u, v)] = (l.take (k + 1)).filter (fun p => (f p.1).isSome) by rw [HT.out, List.filter_append, ← EL.out]; simp [hfu])
        clear bA
        go_wp2_with (at_builtin; refine wpList_append_row rfl _ _ 24 rfl w.heap.size 29 j0 (.agg #[.int .i64 0, .int .i64 0]) 2 16 Try.underlying24 hj hj0 hj1 hj2 rfl (by decide) _ p (cellsW L) rfl OA6.out (some ⟨V.heap.size, 0, none⟩) 1 1 [.int .i64 u, .int .i64 v] rfl rfl (.inr ⟨_, rfl, World.news_of_block HN6.out⟩) (fun e => by cases e) ?m1 ?m2 ?m3 ?m4 ?_)
        case m1 => intro z hz; simp only [List.mem_cons, List.not_mem_nil, or_false] at hz; rcases hz with rfl | rfl <;> rfl
        case m2 => unfold maxLen; omega
        case m3 => omega
        case m4 => have := HZ6.out; have := HZA.out; have := HS.out; omega
        intro a2 c2 w5 o1 hg
        have N1 := hid (show w5.ownsRow w.heap.size 29 2 (.slice a2 (p + 1) c2) (p + 1) (cellsW (L ++ [(u, v)])) by rw [cellsW_app]; exact o1)
        have N3 := hid (BA6.out.grown hg (by have := BA6.out.size; omega) (fun r e => (OA6.out.lt r e).1))
        clear o1 hg HN6 OA6 BA6 HZ6 HZA HS d0 d1
        go_wp2_with fail
        go_roundw
        case rel => exact ⟨k + 1, a2, p + 1, c2, L ++ [(u, v)], by omega, by go_num, rfl, by omega, by simp [hL], N5, N1, hid (bdW_snoc BL.out HBD.out), N3⟩
        case measure => simp [intOf]; omega
      | false =>
        have N5 := hid (show L = (l.take (k + 1)).filter (fun p => (f p.1).isSome) by rw [HT.out, List.filter_append, ← EL.out]; simp [hfu])
        go_wp2_with fail
        go_roundw
        case rel => exact ⟨k + 1, a, p, c, L, by omega, by go_num, rfl, by omega, hL, N5, OA, BL, BA⟩
        case measure => simp [intOf]; omega
    · have hlt' : ¬ (k : Int) < (k0 : Int) := by omega
      go_wp2_with fail
      go_ret
      have e2 : L = stillL l f := by have := EL.out; rw [List.take_of_length_le (by omega)] at this; exact this
      subst hL
      rw [← e2]
      exact ⟨a, c, rfl, OL.out, BL.out, HB.out⟩
end Go.Proofs.Ytknloabdfkidiaa
