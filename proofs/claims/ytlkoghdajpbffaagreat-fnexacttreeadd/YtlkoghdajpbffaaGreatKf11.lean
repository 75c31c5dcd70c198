/- The contracts of the laws' toNodeS, szNodeS, eqNodeS, toTree, szTree, eqTree. Conditions: trees of at most 2^21 bytes, entries, kids and nodes together. -/
import Derived.Test.YtlkoghdajpbffaaGreatMgs
namespace Go.Proofs.YtlkoghdajpbffaaGreat
open Go.RowKit
set_option maxRecDepth 100000
def sumD (f : Nd → Nat) : List Nd → Nat
 | [] => 0
 | d :: ds => f d + sumD f ds
theorem sumD_app (f : Nd → Nat) : ∀ a b : List Nd, sumD f (a ++ b) = sumD f a + sumD f b
 | [], b => by simp [sumD]
 | p :: a, b => by simp [sumD, sumD_app f a b]; omega
theorem take_snocD (ds : List Nd) (k : Nat) (h : k < ds.length) : ds.take (k + 1) = ds.take k ++ [ds.getD k nd0] := by
 rw [List.take_add_one, List.getElem?_eq_getElem h, Option.toList_some]
 simp [List.getD, h]
theorem sumD_step (f : Nd → Nat) (ds : List Nd) (k : Nat) (h : k < ds.length) : sumD f (ds.take (k + 1)) = sumD f (ds.take k) + f (ds.getD k nd0) := by
 rw [take_snocD ds k h, sumD_app]; simp [sumD]
theorem sumD_take (f : Nd → Nat) (ds : List Nd) (k : Nat) : sumD f (ds.take k) ≤ sumD f ds := by
 have : sumD f ds = sumD f (ds.take k ++ ds.drop k) := by rw [List.take_append_drop]
 rw [this, sumD_app]; omega
theorem sumD_at (f : Nd → Nat) (ds : List Nd) (k : Nat) (h : k < ds.length) : f (ds.getD k nd0) ≤ sumD f ds := by
 have h1 := sumD_step f ds k h
 have h2 := sumD_take f ds (k + 1)
 omega
set_option maxHeartbeats 3200000 in
theorem toNodeS {ad : Option Addr} {n : Nat} (cap : Nat) {ds : List Nd} {w : World} (h : ReadsD w ad ds) (hl : ds.length = n) (hn : n ≤ 2097152) (hs : sumD szD ds ≤ 2097152) :
 Calls Tryz.prog 25 #[.slice ad n cap] w fun e w' => e = .returned (.slice (some ⟨w.heap.size, 0, none⟩) n n) ∧ OwnD w' w.heap.size w'.heap.size (.slice (some ⟨w.heap.size, 0, none⟩) n n) ds ∧ Below w.heap.size w w' := by
 obtain ⟨i0, hi, hz0, hz1, hz2⟩ := info_parts Tryz.infoNd
 go_enter Tryz.func25, Tryz.ntmps25
 go_wp2_with (at_make; refine wpList_make_full _ rfl _ _ 31 rfl w.heap.size 61 i0 (.agg #[.bool false, .slice none 0 0, .slice none 0 0]) 3 Tryz.underlying31 hi hz0 hz1 _ _ _ _ n rfl rfl (by omega) (by omega) ?b2 ?b3 qN ?_)
 case b2 => rw [hz2]; omega
 case b3 => unfold maxLen; omega
 intro sn0' hown0 hgrow0
 go_wp2
 go_loopw [4] (fun i wr => ∃ (k : Nat) (ys : List (Value × Value)) (bs : List (Nat × Nat)), k ≤ n ∧ i = .int .i64 k ∧ ys.length = k ∧ Hid (wr.ownsRow w.heap.size 61 3 (.slice (some ⟨w.heap.size, 0, none⟩) n n) n (cellsD (ds.take k ++ List.replicate (n - k) nd0) (ys ++ List.replicate (n - k) nilP))) ∧ Hid (BandsD wr w.heap.size wr.heap.size ys (ds.take k) bs) ∧ Hid (∀ i, i < k → w.heap.size < (bs.getD i (0, 0)).1) ∧ Hid (Below w.heap.size w wr))
  (fun i _ => n - (intOf i).toNat)
 case atStart =>
  refine ⟨0, [], [], Nat.zero_le _, rfl, rfl, hid ?_, hid (by rw [List.take_zero]; exact BandsD.nil _ _ _), hid (fun i hi => by omega), hid ((Below.refl _ _).grown hgrow0 qN (fun k h => by cases h))⟩
  rw [made3n, ← nilS, ← zeroD] at hown0
  simpa using hown0
 case round =>
  obtain ⟨k, ys, bs, hk, rfl, hx, hown, hB, HO, hnx⟩ := hrel
  by_cases hlt : k < n
  · have hlt' : (k : Int) < (n : Int) := by omega
    obtain ⟨b, off, a, c, a', c', rfl, c0', c1', c2', hr0, _, hi0, _⟩ := h.at (k := k) (by omega)
    have hbl := World.block_lt_of_cell? w _ c0'
    have c0 := (hnx.out.cell (p := ⟨b, off + k * 3, none⟩) (by exact hbl)).trans c0'
    have c1 := (hnx.out.cell (p := ⟨b, off + k * 3 + 1, none⟩) (by exact hbl)).trans c1'
    have c2 := (hnx.out.cell (p := ⟨b, off + k * 3 + 2, none⟩) (by exact hbl)).trans c2'
    have hr := hid (hr0.below hnx.out qN)
    have hri := hid (hi0.below hnx.out qN)
    have hlen := sumD_at szD ds k (by omega)
    have HT := hid (take_snocD ds k (by omega))
    generalize ds.getD k nd0 = d at *
    obtain ⟨lf, es, ks⟩ := d
    obtain ⟨m, hm⟩ : ∃ m, es.length = m := ⟨_, rfl⟩
    obtain ⟨q, hq⟩ : ∃ q, ks.length = q := ⟨_, rfl⟩
    simp only [szD] at c0 c1 c2 hlen hr hri
    rw [hm] at c1 hlen
    rw [hq] at c2 hlen hri
    have HM := hid hm
    have HQ := hid hq
    clear c0' c1' c2' hr0 hi0 hm hq hown0 hgrow0
    go_wp2_with fail
    clear c0 c1 c2
    refine (toNode lf c c' hr.out hri.out HM.out HQ.out (by omega) (by omega) (by omega)).mono ?_
    rintro e w1 ⟨g1, g2, rfl, o1, b1⟩
    have hown1 := owns_below b1 (by have := hnx.out.size; omega) hown.out
    have hxl : (ys ++ List.replicate (n - k) nilP).length = (ds.take k ++ List.replicate (n - k) nd0).length := by simp; omega
    have hel : (ds.take k ++ List.replicate (n - k) nd0).length = n := by simp; omega
    have hz0 : (cellsD (ds.take k ++ List.replicate (n - k) nd0) (ys ++ List.replicate (n - k) nilP)).length = n * 3 := by
     rw [cellsD_len _ _ hxl, hel]
    have hcc : ∀ q, q < 3 → ∃ v, w1.cell? ⟨w.heap.size, k * 3 + q, none⟩ = some v := fun q hq => by
     rw [hown1.cellAt (k * 3 + q) (by omega)]
     exact ⟨_, List.getElem?_eq_getElem (by omega)⟩
    obtain ⟨v0, d0⟩ := hcc 0 (by omega)
    obtain ⟨v1, d1⟩ := hcc 1 (by omega)
    obtain ⟨v2, d2⟩ := hcc 2 (by omega)
    simp only [Nat.add_zero] at d0
    have fz : ∀ q, w1.frozen? ⟨w.heap.size, q, none⟩ = false := fun q => hown1.frozenAt q
    have f0 := fz (k * 3)
    have f1 := fz (k * 3 + 1)
    have f2 := fz (k * 3 + 2)
    have S0 := hown1.stored (k * 3) (.bool lf)
    have S1 := S0.1.stored (k * 3 + 1) (.slice (some ⟨g1, 0, none⟩) m m)
    have S2 := S1.1.stored (k * 3 + 2) (.slice (some ⟨g2, 0, none⟩) q q)
    have hB1 : BandsD w1 w.heap.size w1.heap.size (ys ++ [(.slice (some ⟨g1, 0, none⟩) m m, .slice (some ⟨g2, 0, none⟩) q q)]) (ds.take k ++ [⟨lf, es, ks⟩]) (bs ++ [(wr.heap.size, w1.heap.size)]) := (hB.out.agree (Agree.below b1 qN)).snoc (by have := hnx.out.size; omega) qN qN b1.size o1
    have B1 := hB1.aside hown1 (by decide) (by decide) (by decide) S0.2
    have B2 := B1.aside S0.1 (by decide) (by decide) (by decide) S1.2
    have B3 := B2.aside S1.1 (by decide) (by decide) (by decide) S2.2
    have V3 := (((hnx.out.trans (b1.mono hnx.out.size)).setCell (p := ⟨w.heap.size, k * 3, none⟩) qN (.bool lf)).setCell (p := ⟨w.heap.size, k * 3 + 1, none⟩) qN (.slice (some ⟨g1, 0, none⟩) m m)).setCell (p := ⟨w.heap.size, k * 3 + 2, none⟩) qN (.slice (some ⟨g2, 0, none⟩) q q)
    have O3 := S2.1
    rw [cellsD_set3 _ _ k ⟨lf, es, ks⟩ (.slice (some ⟨g1, 0, none⟩) m m, .slice (some ⟨g2, 0, none⟩) q q) hxl (by rw [hel]; omega), set_rep9 _ k n nd0 _ (by simp; omega) hlt, set_rep9 ys k n nilP _ hx hlt, ← HT.out] at O3
    rw [← HT.out] at B3
    have HOO := hid O3
    have HBB := hid B3
    have HV := hid V3
    have HO2 := hid (show ∀ i, i < k + 1 → w.heap.size < ((bs ++ [(wr.heap.size, w1.heap.size)]).getD i (0, 0)).1 from fun i hi => by
     have hbl2 : bs.length = k := by rw [hB.out.blen]; simp; omega
     rw [getD_app, hbl2]
     by_cases hc : i < k
     · rw [if_pos hc]; exact HO.out i hc
     · rw [if_neg hc, show i - k = 0 by omega]; exact (hown.out.lt _ rfl).2)
    clear S0 S1 S2 hB1 B1 B2 B3 V3 O3 hown1 o1 b1 hz0 hcc fz hxl hel
    go_wp2_with fail
    go_roundw
    case rel => exact ⟨k + 1, _, _, by omega, by go_num, by simp [hx], HOO, hid (by simpa using HBB.out), HO2, HV⟩
    case measure => simp [intOf]; omega
  · go_wp2
    go_ret
    have hkn : k = n := by omega
    subst hkn
    refine ⟨rfl, ⟨⟨ys, bs, ?_, ?_, fun i hi g hg => .inl ?_⟩, fun g hg => (hown.out.lt g hg).2⟩, hnx.out⟩
    · have := hown.out
      rw [List.take_of_length_le (by omega)] at this
      rw [hl]
      simpa using this
    · have := hB.out
      rw [List.take_of_length_le (by omega)] at this
      exact this
    · have : g = w.heap.size := by simpa [Value.ownBlock] using hg.symm
      rw [this]; exact HO.out i (by omega)
set_option maxHeartbeats 1600000 in
theorem szNodeS {ad : Option Addr} {n : Nat} (cap : Nat) {ds : List Nd} {w : World} (h : ReadsD w ad ds) (hl : ds.length = n) (hn : n ≤ 9223372036854775807) (left : Int) (h0 : 0 ≤ left) (h1 : left ≤ 1048576) :
 Calls Tryz.prog 15 #[.slice ad n cap, .int .i64 left] w fun e w' => e = .returned (.int .i64 (lft11 left (n + sumD szD ds))) ∧ Below w.heap.size w w' := by
 have a1 : (0 : Int) ≤ (n : Int) := by omega
 have a2 : (n : Int) ≤ 9223372036854775807 := by omega
 by_cases hbig : left < n
 · have q : left - (n : Int) < 0 := by omega
   have HE := hid (show lft11 left (n + sumD szD ds) = -1 by unfold lft11; rw [if_pos (by omega)])
   go_enter Tryz.func15, Tryz.ntmps15
   go_wp2
   go_ret
   exact ⟨by rw [HE.out]; rfl, Below.refl _ _⟩
 have q : ¬ left - (n : Int) < 0 := by omega
 have hn2 : n ≤ 1048576 := by omega
 obtain ⟨L, hL⟩ : ∃ L : Int, left - n = L := ⟨_, rfl⟩
 have hL0 : 0 ≤ L := by omega
 have hL1 : L ≤ 1048576 := by omega
 have HG := hid (show ∀ t : Nat, lft11 left (n + t) = lft11 L t by intro t; unfold lft11; by_cases hh : L < t; rw [if_pos (by omega), if_pos hh]; rw [if_neg (by omega), if_neg hh]; omega)
 have HL := hid hL
 go_enter Tryz.func15, Tryz.ntmps15
 go_wp2
 clear hL q
 go_loopw [1, 5] (fun l i wr => ∃ (k : Nat) (x : Int), k ≤ n ∧ i = .int .i64 k ∧ l = .int .i64 x ∧ 0 ≤ x ∧ x ≤ 1048576 ∧ Hid (x = L - sumD szD (ds.take k)) ∧ Hid (Below w.heap.size w wr)) (fun _ i _ => n - (intOf i).toNat)
 case atStart => exact ⟨0, L, Nat.zero_le _, rfl, rfl, hL0, hL1, hid (by simp [sumD]), hid (Below.refl _ _)⟩
 case round =>
  obtain ⟨k, x, hk, rfl, rfl, hx0, hx1, HX, hB⟩ := hrel
  by_cases hlt : k < n
  · have hlt' : (k : Int) < (n : Int) := by omega
    have hk0 : (0 : Int) ≤ (k : Int) := by omega
    obtain ⟨b, off, a, c, a', c', rfl, c0', c1', c2', hr0, hmx, _, hmy⟩ := h.at (k := k) (by omega)
    unfold maxLen at hmx hmy
    have hbl := World.block_lt_of_cell? w _ c0'
    have c0 := (hB.out.cell (p := ⟨b, off + k * 3, none⟩) (by exact hbl)).trans c0'
    have c1 := (hB.out.cell (p := ⟨b, off + k * 3 + 1, none⟩) (by exact hbl)).trans c1'
    have c2 := (hB.out.cell (p := ⟨b, off + k * 3 + 2, none⟩) (by exact hbl)).trans c2'
    have hr := hid (hr0.below hB.out qN)
    have HT := hid (sumD_step szD ds k (by omega))
    have HU := hid (sumD_take szD ds (k + 1))
    generalize ds.getD k nd0 = d at *
    obtain ⟨lf, es, ks⟩ := d
    simp only [szD] at c0 c1 c2 hmx hmy HT hr
    obtain ⟨m, hm⟩ : ∃ m, es.length = m := ⟨_, rfl⟩
    obtain ⟨q, hq⟩ : ∃ q, ks.length = q := ⟨_, rfl⟩
    rw [hm] at c1 hmx HT
    rw [hq] at c2 hmy HT
    obtain ⟨y, hy⟩ : ∃ y : Int, lft11 x (m + sumE es + q) = y := ⟨_, rfl⟩
    have HY := hid hy
    have HM := hid hm
    have hy2 : (x < (m + sumE es + q : Nat) ∧ y = -1) ∨ (0 ≤ y ∧ y ≤ 1048576 ∧ y = x - (m + sumE es + q : Nat)) := by
     unfold lft11 at hy
     by_cases hh : x < (m + sumE es + q : Nat)
     · rw [if_pos hh] at hy; exact .inl ⟨hh, hy.symm⟩
     · rw [if_neg hh] at hy; exact .inr ⟨by omega, by omega, hy.symm⟩
    have HY2 := hid hy2
    clear hr0 hm hq hy hy2 c0' c1' c2'
    go_wp2_with fail
    clear c0 c1 c2
    refine (szNode lf c a' q c' hr.out HM.out (by omega) (by omega) x hx0 hx1).mono ?_
    rintro e w1 ⟨rfl, b1⟩
    rw [HY.out]
    have HB := hid (hB.out.trans (b1.mono hB.out.size))
    clear b1
    rcases HY2.out with ⟨hbm, rfl⟩ | ⟨hy0, hy1, hye⟩
    · go_wp2_with fail
      go_ret
      refine ⟨?_, HB.out⟩
      rw [HG.out]
      unfold lft11
      rw [if_pos (by have := HT.out; have := HU.out; have := HX.out; omega)]
      rfl
    · have hy2 : ¬ y < 0 := by omega
      have HYE := hid hye
      clear hye HY2
      go_wp2_with fail
      go_roundw
      case rel => exact ⟨k + 1, y, by omega, by go_num, rfl, hy0, hy1, hid (by have := HT.out; have := HX.out; have := HYE.out; omega), HB⟩
      case measure => simp [intOf]; omega
  · have hlt' : ¬ (k : Int) < (n : Int) := by omega
    go_wp2
    go_ret
    refine ⟨?_, hB.out⟩
    rw [HG.out]
    have := HX.out
    rw [List.take_of_length_le (by omega)] at this
    unfold lft11
    rw [if_neg (by omega), this]
    rfl
set_option maxHeartbeats 6400000 in
theorem eqNodeS {ad ad' : Option Addr} {n : Nat} (cap cap' : Nat) {ds : List Nd} {w : World} (h : ReadsD w ad ds) (h' : ReadsD w ad' ds) (hl : ds.length = n) (hn : n ≤ 2097152) (hs : sumD szD ds ≤ 2097152) :
 Calls Tryz.prog 33 #[.slice ad n cap, .slice ad' n cap'] w fun e w' => e = .returned (.bool true) ∧ Below w.heap.size w w' := by
 go_enter Tryz.func33, Tryz.ntmps33
 go_wp2
 go_loopw [5] (fun i wr => ∃ k : Nat, k ≤ n ∧ i = .int .i64 k ∧ Hid (Below w.heap.size w wr)) (fun i _ => n - (intOf i).toNat)
 case atStart => exact ⟨0, Nat.zero_le _, rfl, hid (Below.refl _ _)⟩
 case round =>
  obtain ⟨k, hk, rfl, hS⟩ := hrel
  by_cases hlt : k < n
  · have hlt' : (k : Int) < (n : Int) := by omega
    have hk0 : (0 : Int) ≤ (k : Int) := by omega
    obtain ⟨b, off, a, c, a1, c1, rfl, x0', x1', x2', r1, _, i1, _⟩ := h.at (k := k) (by omega)
    obtain ⟨b', off', a', c', a1', c1', rfl, y0', y1', y2', r2, _, i2, _⟩ := h'.at (k := k) (by omega)
    have hlen := sumD_at szD ds k (by omega)
    have bl := World.block_lt_of_cell? w _ x0'
    have bl' := World.block_lt_of_cell? w _ y0'
    have bD := (Still.drew wr).below wr.heap.size
    have bE := hS.out.trans (bD.mono hS.out.size)
    generalize ds.getD k nd0 = d at *
    obtain ⟨lf, es, ks⟩ := d
    simp only [szD] at x0' x1' x2' y0' y1' y2' r1 r2 i1 i2 hlen
    obtain ⟨m, hm⟩ : ∃ m, es.length = m := ⟨_, rfl⟩
    obtain ⟨q, hq⟩ : ∃ q, ks.length = q := ⟨_, rfl⟩
    rw [hm] at x1' y1' hlen
    rw [hq] at x2' y2' i1 i2 hlen
    have BX := hid (show wr.drew.cell? ⟨b, off + k * 3, none⟩ = some (.bool lf) ∧ wr.drew.cell? ⟨b, off + k * 3 + 1, none⟩ = some (.slice a m c) ∧ wr.drew.cell? ⟨b, off + k * 3 + 2, none⟩ = some (.slice a1 q c1) ∧ wr.drew.cell? ⟨b', off' + k * 3, none⟩ = some (.bool lf) ∧ wr.drew.cell? ⟨b', off' + k * 3 + 1, none⟩ = some (.slice a' m c') ∧ wr.drew.cell? ⟨b', off' + k * 3 + 2, none⟩ = some (.slice a1' q c1') from
     ⟨(bE.cell (p := ⟨b, off + k * 3, none⟩) (by exact bl)).trans x0', (bE.cell (p := ⟨b, off + k * 3 + 1, none⟩) (by exact bl)).trans x1', (bE.cell (p := ⟨b, off + k * 3 + 2, none⟩) (by exact bl)).trans x2', (bE.cell (p := ⟨b', off' + k * 3, none⟩) (by exact bl')).trans y0', (bE.cell (p := ⟨b', off' + k * 3 + 1, none⟩) (by exact bl')).trans y1', (bE.cell (p := ⟨b', off' + k * 3 + 2, none⟩) (by exact bl')).trans y2'⟩)
    have R1 := hid (r1.below bE qN)
    have R2 := hid (r2.below bE qN)
    have I1 := hid (i1.below bE qN)
    have I2 := hid (i2.below bE qN)
    have HM := hid hm
    have BL := hid (show b < wr.drew.heap.size ∧ b' < wr.drew.heap.size from ⟨Nat.lt_of_lt_of_le bl bE.size, Nat.lt_of_lt_of_le bl' bE.size⟩)
    have hm2 : m ≤ 2097152 := by omega
    have hq2 : q ≤ 2097152 := by omega
    have hs2 : sumE es ≤ 2097152 := by omega
    clear x0' x1' x2' y0' y1' y2' r1 r2 i1 i2 hlen hm hq bl bl'
    go_wp2
    replace hS := hid bE
    clear bD bE
    refine region_K 99 (fun W => W.cell? ⟨b, off + k * 3, none⟩ = some (.bool lf) ∧ W.cell? ⟨b, off + k * 3 + 1, none⟩ = some (.slice a m c) ∧ W.cell? ⟨b, off + k * 3 + 2, none⟩ = some (.slice a1 q c1) ∧ W.cell? ⟨b', off' + k * 3, none⟩ = some (.bool lf) ∧ W.cell? ⟨b', off' + k * 3 + 1, none⟩ = some (.slice a' m c') ∧ W.cell? ⟨b', off' + k * 3 + 2, none⟩ = some (.slice a1' q c1')) (by kernel_rfl) ?_ (fun hHeld => ?_)
    · exact BX.out
    generalize wr.drew = v0 at *
    refine qT 0 rfl hHeld 17 rfl ?_
    refine qT 1 rfl hHeld 18 rfl ?_
    refine qT 2 rfl hHeld 19 rfl ?_
    refine qT 3 rfl hHeld 20 rfl ?_
    refine qT 4 rfl hHeld 21 rfl ?_
    refine qT 5 rfl hHeld 22 rfl ?_
    refine qT 6 rfl hHeld 23 rfl ?_
    refine qT 7 rfl hHeld 24 rfl ?_
    refine qS 8 rfl fun KP hK => ?_
    go_simp
    refine (eqNode lf c c' c1 c1' R1.out R2.out I1.out I2.out HM.out hm2 hs2 hq2).mono ?_
    rintro e u ⟨rfl, b1⟩
    have HS2 := hid (hS.out.trans (b1.mono hS.out.size))
    obtain ⟨q0, q1, q2, q3, q4, q5⟩ := BX.out
    replace BX := hid (And.intro ((b1.cell (p := ⟨b, off + k * 3, none⟩) (by exact BL.out.1)).trans q0) (And.intro ((b1.cell (p := ⟨b, off + k * 3 + 1, none⟩) (by exact BL.out.1)).trans q1) (And.intro ((b1.cell (p := ⟨b, off + k * 3 + 2, none⟩) (by exact BL.out.1)).trans q2) (And.intro ((b1.cell (p := ⟨b', off' + k * 3, none⟩) (by exact BL.out.2)).trans q3) (And.intro ((b1.cell (p := ⟨b', off' + k * 3 + 1, none⟩) (by exact BL.out.2)).trans q4) ((b1.cell (p := ⟨b', off' + k * 3 + 2, none⟩) (by exact BL.out.2)).trans q5))))))
    clear b1 q0 q1 q2 q3 q4 q5
    go_wp2_with fail
    clear hHeld
    refine hK.out _ _ BX.out (fun hHeld => ?_)
    clear hK KP
    try simp only [qP]
    refine qS 9 rfl fun KP hK => ?_
    go_simp
    clear hHeld
    refine hK.out _ _ BX.out (fun hHeld => ?_)
    clear hK KP
    try simp only [qP]
    refine anyK_done (by kernel_rfl) ?_ _
    clear hHeld
    go_wp2_with fail
    go_roundw
    case rel => exact ⟨k + 1, by omega, by go_num, HS2⟩
    case measure => simp [intOf]; omega
  · have hlt' : ¬ (k : Int) < (n : Int) := by omega
    go_wp2
    go_ret
    exact ⟨rfl, hS.out⟩
theorem size_tr : (Tryz.prog.info? 33).map (·.size) = some 2 := by kernel_rfl
set_option maxHeartbeats 3200000 in
theorem toTree {ad : Option Addr} {n : Nat} (cap : Nat) (rt : Int) {ds : List Nd} {w : World} (h : ReadsD w ad ds) (hl : ds.length = n) (hn : n ≤ 2097152) (hs : sumD szD ds ≤ 2097152) :
 Calls Tryz.prog 7 #[.agg #[.slice ad n cap, .int .i64 rt]] w fun e w' => ∃ g, e = .returned (.agg #[.slice (some ⟨g, 0, none⟩) n n, .int .i64 rt]) ∧ OwnD w' w.heap.size w'.heap.size (.slice (some ⟨g, 0, none⟩) n n) ds ∧ Below w.heap.size w w' := by
 obtain ⟨z3, r1, r2, b3⟩ := three w (.cells #[.slice ad n cap, .int .i64 rt] 24) (.cells #[.slice none 0 0, .int .i64 0] 33) (.cells #[.slice none 0 0, .int .i64 0] 33)
 have r0 := three_first w (.cells #[.slice ad n cap, .int .i64 rt] 24) (.cells #[.slice none 0 0, .int .i64 0] 33) (.cells #[.slice none 0 0, .int .i64 0] 33)
 have H0 := hid r0
 have H1 := hid r1
 have H2 := hid r2
 have HB := hid b3
 have HZ := hid z3
 have HE := hid (h.below b3 qN)
 clear r0 r1 r2 b3 z3 h
 go_enter Tryz.func7, Tryz.ntmps7
 go_wp2_with fail
 generalize ((w.alloc (.cells #[.slice ad n cap, .int .i64 rt] 24)).alloc (.cells #[.slice none 0 0, .int .i64 0] 33)).alloc (.cells #[.slice none 0 0, .int .i64 0] 33) = X at *
 refine (toNodeS cap HE.out hl hn hs).mono ?_
 rintro e w1 ⟨rfl, oD, b⟩
 have z := HZ.out
 have bs := b.size
 have t0 := (b.block w.heap.size (by omega)).trans H0.out
 have t1 := (b.block (w.heap.size + 1) (by omega)).trans H1.out
 have t2 := (b.block (w.heap.size + 1 + 1) (by omega)).trans H2.out
 have d0 : w1.cell? ⟨(w.heap.size + 1 + 1), 0, none⟩ = some (.slice none 0 0) := qC t2
 have d1 : w1.cell? ⟨(w.heap.size + 1 + 1), 1, none⟩ = some (.int .i64 0) := qC t2
 have f0 : w1.frozen? ⟨(w.heap.size + 1 + 1), 0, none⟩ = false := frozen_of_row _ _ _ _ _ t2
 have f1 : w1.frozen? ⟨(w.heap.size + 1 + 1), 1, none⟩ = false := frozen_of_row _ _ _ _ _ t2
 have c1 : w1.cell? ⟨w.heap.size, 1, none⟩ = some (.int .i64 rt) := qC t0
 have v2 := heap_setCell_same _ (w.heap.size + 1 + 1) 1 _ 33 (.int .i64 rt) (heap_setCell_same w1 (w.heap.size + 1 + 1) 0 _ 33 (.slice (some ⟨X.heap.size, 0, none⟩) n n) t2)
 have v1 := (heap_setCell_other (w1.setCell ⟨(w.heap.size + 1 + 1), 0, none⟩ (.slice (some ⟨X.heap.size, 0, none⟩) n n)) ⟨(w.heap.size + 1 + 1), 1, none⟩ (w.heap.size + 1) (.int .i64 rt) (by simp)).trans ((heap_setCell_other w1 ⟨(w.heap.size + 1 + 1), 0, none⟩ (w.heap.size + 1) (.slice (some ⟨X.heap.size, 0, none⟩) n n) (by simp)).trans t1)
 have bU := ((HB.out.trans (b.mono (by omega))).setCell (p := ⟨(w.heap.size + 1 + 1), 0, none⟩) (by simp; omega) (.slice (some ⟨X.heap.size, 0, none⟩) n n)).setCell (p := ⟨(w.heap.size + 1 + 1), 1, none⟩) (by simp; omega) (.int .i64 rt)
 have gA := grown_set11 w1 (w.heap.size + 1 + 1) 0 (.slice (some ⟨X.heap.size, 0, none⟩) n n)
 have gB := grown_set11 (w1.setCell ⟨(w.heap.size + 1 + 1), 0, none⟩ (.slice (some ⟨X.heap.size, 0, none⟩) n n)) (w.heap.size + 1 + 1) 1 (.int .i64 rt)
 have gC := row_grown11 ((w1.setCell ⟨(w.heap.size + 1 + 1), 0, none⟩ (.slice (some ⟨X.heap.size, 0, none⟩) n n)).setCell ⟨(w.heap.size + 1 + 1), 1, none⟩ (.int .i64 rt)) (w.heap.size + 1) #[(.slice (some ⟨X.heap.size, 0, none⟩) n n), .int .i64 rt]
 have OD := hid ((oD.agree (w' := ((w1.setCell ⟨(w.heap.size + 1 + 1), 0, none⟩ (.slice (some ⟨X.heap.size, 0, none⟩) n n)).setCell ⟨(w.heap.size + 1 + 1), 1, none⟩ (.int .i64 rt)).setRow (w.heap.size + 1) #[(.slice (some ⟨X.heap.size, 0, none⟩) n n), .int .i64 rt]) (fun k k1 k2 => by
  rw [gC.block k (by rw [set_size, set_size]; omega) (by simp; omega), gB.block k (by rw [set_size]; omega) (by simp; omega), gA.block k (by omega) (by simp; omega)])).mono (lo' := w.heap.size) (by omega) (show w1.heap.size ≤ (((w1.setCell ⟨(w.heap.size + 1 + 1), 0, none⟩ (.slice (some ⟨X.heap.size, 0, none⟩) n n)).setCell ⟨(w.heap.size + 1 + 1), 1, none⟩ (.int .i64 rt)).setRow (w.heap.size + 1) #[(.slice (some ⟨X.heap.size, 0, none⟩) n n), .int .i64 rt]).heap.size by have := gA.size; have := gB.size; have := gC.size; omega))
 have B4 := hid (below_setRow bU (show w.heap.size ≤ (w.heap.size + 1) by omega) #[(.slice (some ⟨X.heap.size, 0, none⟩) n n), .int .i64 rt])
 have V1 := hid v1
 have V2 := hid v2
 clear t0 t1 t2 v1 v2 bU gA gB gC oD b z bs H0 H1 H2 HB HZ
 go_wp2_with (first
  | (refine wpList_load_row rfl 33 (.tmp 3) rfl (w.heap.size + 1 + 1) rfl 33 _ (0, 0) _ V2.out Tryz.underlying33 rfl size_tr ?_)
  | (refine wpList_store_row rfl 33 (.tmp 2) (.tmp 11) rfl (w.heap.size + 1) #[(.slice (some ⟨X.heap.size, 0, none⟩) n n), .int .i64 rt] rfl rfl 33 _ V1.out ?s7 ?s8 ?s9 ?_))
 case s7 => exact size_tr
 case s8 => rfl
 case s9 => simp [Value.oneCell']
 exact bodyPost_ret (results_cell_row Tryz.results7 _ _ (w.heap.size + 1) 33 _ (0, 0) _ rfl (setRow_heap _ _ _ _ _ _ V1.out) Tryz.underlying33 rfl size_tr) rfl ⟨X.heap.size, rfl, OD.out, B4.out⟩
set_option maxHeartbeats 1600000 in
theorem szTree {ad : Option Addr} {n : Nat} (cap : Nat) (rt : Int) {ds : List Nd} {w : World} (h : ReadsD w ad ds) (hl : ds.length = n) (hn : n ≤ 9223372036854775807) (left : Int) (h0 : 0 ≤ left) (h1 : left ≤ 1048576) :
 Calls Tryz.prog 4 #[.agg #[.slice ad n cap, .int .i64 rt], .int .i64 left] w fun e w' => e = .returned (.int .i64 (lft11 left (n + sumD szD ds))) ∧ Below w.heap.size w w' := by
 have hB := Below.alloc1 w (.cells #[.slice ad n cap, .int .i64 rt] 24)
 have H1 := hid (h.below hB qN)
 have HB := hid hB
 obtain ⟨M, hM⟩ : ∃ M : Int, lft11 left (n + sumD szD ds) = M := ⟨_, rfl⟩
 have hM0 : M < 0 → M = -1 := by unfold lft11 at hM; split at hM <;> omega
 have HM := hid hM
 have HM0 := hid hM0
 clear hM hM0 hB h
 go_enter Tryz.func4, Tryz.ntmps4
 go_wp2_with fail
 refine (szNodeS cap H1.out hl hn left h0 h1).mono ?_
 rintro e w1 ⟨rfl, b⟩
 rw [HM.out]
 replace HB := hid (HB.out.trans (b.mono HB.out.size))
 clear b
 by_cases hq : M < 0
 · go_wp2_with fail
   go_ret
   exact ⟨by rw [HM.out, HM0.out hq]; rfl, HB.out⟩
 · go_wp2_with fail
   go_ret
   exact ⟨by rw [HM.out]; rfl, HB.out⟩
set_option maxHeartbeats 1600000 in
theorem eqTree {ad bd : Option Addr} {n : Nat} (cap cp : Nat) (rt : Int) {ds : List Nd} {w : World} (h : ReadsD w ad ds) (h' : ReadsD w bd ds) (hl : ds.length = n) (hn : n ≤ 2097152) (hs : sumD szD ds ≤ 2097152) :
 Calls Tryz.prog 10 #[.agg #[.slice ad n cap, .int .i64 rt], .agg #[.slice bd n cp, .int .i64 rt]] w fun e w' => e = .returned (.bool true) ∧ Below w.heap.size w w' := by
 have hB := two w (.cells #[.slice ad n cap, .int .i64 rt] 33) (.cells #[.slice bd n cp, .int .i64 rt] 33)
 obtain ⟨R1, R2, z⟩ := two_rows11 w (.cells #[.slice ad n cap, .int .i64 rt] 33) (.cells #[.slice bd n cp, .int .i64 rt] 33)
 have H1 := hid (h.below hB qN)
 have H2 := hid (h'.below hB qN)
 have HB := hid hB
 have HR1 := hid R1
 have HR2 := hid R2
 have HZ := hid z
 have q0 : (rt != rt) = false := by simp
 clear hB R1 R2 z h h'
 go_enter Tryz.func10, Tryz.ntmps10
 go_wp2_with fail
 refine (eqNodeS cap cp H1.out H2.out hl hn hs).mono ?_
 rintro e w2 ⟨rfl, b⟩
 have hz := HZ.out
 have c1 : w2.cell? ⟨w.heap.size, 1, none⟩ = some (.int .i64 rt) := by rw [cell_of_row _ _ _ _ _ _ ((b.block w.heap.size (by omega)).trans HR1.out)]; rfl
 have c2 : w2.cell? ⟨w.heap.size + 1, 1, none⟩ = some (.int .i64 rt) := by rw [cell_of_row _ _ _ _ _ _ ((b.block (w.heap.size + 1) (by omega)).trans HR2.out)]; rfl
 replace HB := hid (HB.out.trans (b.mono HB.out.size))
 clear b hz
 go_wp2_with fail
 go_ret
 exact ⟨rfl, HB.out⟩
end Go.Proofs.YtlkoghdajpbffaaGreat
