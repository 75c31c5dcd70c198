/- The program's ringFrom and GraphRing. Conditions: texts of at most 2^21 bytes. -/
import Derived.Test.YtnbpblephmjfnaaGreatXa14
import Derived.Test.YtnbpblephmjfnaaGreatXb14
namespace Go.Proofs.YtnbpblephmjfnaaGreat
open Go.RowKit Go.Maps
set_option maxRecDepth 100000
set_option maxHeartbeats 1600000 in
theorem index_int {a : Option Addr} {n : Nat} (c : Nat) {zs : List Int} {w : World} (h : ReadsI w a n zs) (hn : n ≤ 2097152) (x : Int) :
 Calls Tryz.prog 101 #[.slice a n c, .int .i64 x] w fun e w' => ∃ r : Int, e = .returned (.int .i64 r) ∧ idxP zs x r ∧ w' = w := by
 have HL := hid h
 have HLe := hid h.len
 clear h
 go_enter Tryz.func101, Tryz.ntmps101
 go_wp2_with fail
 go_loopw [8] (fun i wr => ∃ k : Nat, k ≤ n ∧ i = .int .i64 k ∧ Hid (∀ j, j < k → zs.getD j 0 ≠ x) ∧ wr = w) (fun i _ => n - (intOf i).toNat)
 case atStart => exact ⟨0, Nat.zero_le _, rfl, hid (fun j hj => by omega), rfl⟩
 case round =>
  obtain ⟨k, hk, rfl, HA, rfl⟩ := hrel
  by_cases hlt : k < n
  · have hlt' : (k : Int) < (n : Int) := by omega
    have hk0 : (0 : Int) ≤ (k : Int) := by omega
    obtain ⟨bo, oo, rfl, hc⟩ := readsI_at HL.out hlt
    have HYe := hid (fun (e : zs.getD k 0 = x) => show idxP zs x (k : Int) from .inr ⟨k, rfl, by have := HLe.out; omega, e, HA.out⟩)
    have HNx := hid (fun (e : zs.getD k 0 ≠ x) j (hj : j < k + 1) => show zs.getD j 0 ≠ x from by
     by_cases hc : j < k
     · exact HA.out j hc
     · have : j = k := by omega
       subst this; exact e)
    obtain ⟨z, hz⟩ : ∃ z, zs.getD k 0 = z := ⟨_, rfl⟩
    rw [hz] at hc HYe HNx
    clear hz
    by_cases hzx : z = x
    · have hq : (x == z) = true := by simp [hzx]
      have HY := hid (HYe.out hzx)
      clear hzx
      go_wp2_with fail
      go_ret
      exact ⟨_, rfl, HY.out, rfl⟩
    · have hq : (x == z) = false := by simpa using fun e => hzx e.symm
      have HN := hid (HNx.out hzx)
      clear hzx
      go_wp2_with fail
      go_roundw
      case rel => exact ⟨k + 1, by omega, by go_num, HN, by first | trivial | rfl⟩
      case measure => simp [intOf]; omega
  · have hlt' : ¬ (k : Int) < (n : Int) := by omega
    have HE := hid (show idxP zs x (-1) from .inl ⟨rfl, fun j hj => HA.out j (by have := HLe.out; omega)⟩)
    go_wp2_with fail
    go_ret
    exact ⟨-1, rfl, HE.out, rfl⟩
set_option maxHeartbeats 1600000 in
theorem contains_int {a : Option Addr} {n : Nat} (c : Nat) {zs : List Int} {w : World} (h : ReadsI w a n zs) (hn : n ≤ 2097152) (x : Int) :
 Calls Tryz.prog 99 #[.slice a n c, .int .i64 x] w fun e w' => ∃ r : Int, e = .returned (.bool (decide (0 ≤ r))) ∧ idxP zs x r ∧ w' = w := by
 have HL := hid h
 clear h
 go_enter Tryz.func99, Tryz.ntmps99
 go_wp2_with fail
 refine (index_int c HL.out hn x).mono ?_
 rintro e w1 ⟨r, rfl, hr, e1⟩
 subst w1
 have HR := hid hr
 clear hr
 go_wp2_with fail
 go_ret
 exact ⟨r, rfl, HR.out, rfl⟩
set_option maxHeartbeats 6400000 in
theorem impl_ringFrom {base g n : Nat} {M : Nat → Nat} {R : Eds} {w : World} (h : EdM w base g n M R) (hn : n ≤ 100) {nx : Nat → Nat} {L : List Nat} (hL : ∀ x ∈ L, x < n) (hnx : ∀ x ∈ L, ∀ r, leastP R n ((x : Nat) : Int) r → r = ((nx x : Nat) : Int) ∧ nx x ∈ L) {p : Nat} (hp : p ∈ L) :
 Calls Tryz.prog 45 #[.slice (some ⟨g, 0, none⟩) n n, .int .i64 (p : Int)] w fun e w' => ∃ a c, e = .returned (.slice a (rgF nx (n + 1) [] p).length c) ∧ TailI w' w.heap.size a (rgF nx (n + 1) [] p).length (nI (rgF nx (n + 1) [] p)) ∧ Below w.heap.size w w' := by
 obtain ⟨V, hV⟩ : ∃ V, rgF nx (n + 1) [] p = V := ⟨_, rfl⟩
 rw [hV]
 have HV := hid hV
 have HE := hid h
 have HLt := hid hL
 have HNx := hid hnx
 have HP := hid hp
 obtain ⟨i0, hinf, hz0, hz1, hz2⟩ := infoI14
 obtain ⟨B0, hB0⟩ : ∃ B0, w.heap.size = B0 := ⟨_, rfl⟩
 have HB0 := hid hB0
 rw [hB0]
 clear hV h hL hnx hp
 go_enter Tryz.func45, Tryz.ntmps45
 go_wp2_with fail
 go_loopw [1, 5] (fun s1 s5 wr => ∃ (W : List Nat) (x m : Nat) (a : Option Addr) (c : Nat), s1 = .int .i64 (x : Int) ∧ s5 = .slice a m c ∧ m ≤ n ∧ Hid (W.length = m) ∧ Hid W.Nodup ∧ Hid (∀ y ∈ W, y ∈ L) ∧ Hid (x ∈ L) ∧ Hid (V = rgF nx (n + 1 - m) W x) ∧ Hid (wr.ownsRow B0 3 1 (.slice a m c) m (ins (nI W))) ∧ Hid (Below B0 w wr)) (fun _ s _ => n - lenV s)
 case atStart => exact ⟨[], p, 0, none, 0, rfl, rfl, Nat.zero_le _, hid rfl, hid List.nodup_nil, hid (fun y hy => by cases hy), HP, hid HV.out.symm, hid (World.ownsRow_nil _ _ _ _), hid (Below.refl _ _)⟩
 case round =>
  obtain ⟨W, x, m, a, c, rfl, rfl, hm, HWl, HNd, HWL, HXL, HVr, HO, HW⟩ := hrel
  have HWt := hid (fun y (hy : y ∈ W) => HLt.out y (HWL.out y hy))
  have HBd := hid (fun j => show -9223372036854775808 ≤ (nI W).getD j 0 ∧ (nI W).getD j 0 ≤ 9223372036854775807 by have := nI_bd14 HWt.out hn j; omega)
  have hxn := HLt.out x HXL.out
  have hZ : B0 ≤ wr.heap.size := by rw [← hB0]; exact HW.out.size
  have HZ := hid hZ
  clear hZ
  go_wp2_with fail
  refine (contains_int c (own_readsI HO.out HBd.out) (by omega) (x : Int)).mono ?_
  rintro e w1 ⟨r, rfl, hr, e1⟩
  subst w1
  rcases hr with ⟨rfl, hno⟩ | ⟨k, rfl, hk, h1, h2⟩
  · have HNo := hid (idx_no (W := W) (p := x) (fun j hj => hno j (by rw [nI_len]; exact hj)))
    have hd : decide ((0 : Int) ≤ -1) = false := rfl
    rw [hd]
    have HNd2 := hid (show (W ++ [x]).Nodup by
     rw [List.nodup_append]
     refine ⟨HNd.out, by simp, fun y hy z hz => ?_⟩
     have : z = x := by simpa using hz
     subst this
     exact fun e => HNo.out (e ▸ hy))
    have HWL2 := hid (show ∀ y ∈ W ++ [x], y ∈ L from fun y hy => by
     rcases List.mem_append.1 hy with q | q
     · exact HWL.out y q
     · have : y = x := by simpa using q
       rw [this]; exact HXL.out)
    have hm2 : m + 1 ≤ n := by
     have := nodup_le n (W ++ [x]) HNd2.out (fun y hy => HLt.out y (HWL2.out y hy))
     rw [List.length_append, HWl.out] at this
     simpa using this
    have HVr2 := hid (show V = rgF nx (n + 1 - (m + 1)) (W ++ [x]) (nx x) by rw [HVr.out, show n + 1 - m = (n + 1 - (m + 1)) + 1 by omega]; exact rgF_on HNo.out)
    have bA := Below.alloc1 wr (.cells #[.int .i64 (x : Int)] 3)
    have HA1 := hid (heap_alloc_new wr (.cells #[.int .i64 (x : Int)] 3))
    have OA := hid (owns_below bA (Nat.le_refl _) HO.out)
    have BA := hid (HW.out.trans (bA.mono HZ.out))
    have ZA := hid (show B0 ≤ (wr.alloc (.cells #[.int .i64 (x : Int)] 3)).heap.size from Nat.le_trans HZ.out bA.size)
    clear bA hno HO HW
    go_wp2_with (at_builtin; refine wpList_append_row rfl _ _ 29 rfl B0 3 i0 (.int .i64 0) 1 8 Tryz.underlying29 hinf hz0 hz1 hz2 rfl (by decide) _ m _ rfl OA.out (some ⟨wr.heap.size, 0, none⟩) 1 1 [.int .i64 (x : Int)] rfl rfl (.inr ⟨_, rfl, World.news_of_block HA1.out⟩) (fun e => by cases e) ?q1 ?q2 ?q3 ?q4 ?_)
    case q1 => simp [Value.oneCell']
    case q2 => unfold maxLen; omega
    case q3 => omega
    case q4 => exact ZA.out
    intro a5 c5 w5 o5 hg5
    have O5 := hid (show w5.ownsRow B0 3 1 (.slice a5 (m + 1) c5) (m + 1) (ins (nI (W ++ [x]))) by rw [nI_snoc]; exact o5)
    have B5 := hid (BA.out.grown hg5 ZA.out (fun r e => (OA.out.lt r e).1))
    have Z5 := hid (Nat.le_trans ZA.out hg5.size)
    clear o5 hg5 OA BA
    go_wp2_with fail
    refine (impl_leastAhead (HE.out.below (by rw [hB0]; exact B5.out)) hn (x : Int) (by omega) (by omega)).mono ?_
    rintro e w6 ⟨r, rfl, hl, b6⟩
    have hnx := HNx.out x HXL.out r hl
    obtain ⟨rfl, hin⟩ := hnx
    have HIn := hid hin
    have O6 := hid (owns_below b6 (Nat.le_refl _) O5.out)
    have B6 := hid (B5.out.trans (b6.mono Z5.out))
    clear hl hin b6 O5 B5
    go_wp2_with fail
    go_roundw
    case rel => exact ⟨W ++ [x], nx x, m + 1, a5, c5, rfl, rfl, hm2, hid (by rw [List.length_append, HWl.out]; rfl), HNd2, HWL2, HIn, HVr2, O6, B6⟩
    case measure => simp [lenV]; omega
  · have hd : decide ((0 : Int) ≤ (k : Int)) = true := decide_eq_true (by omega)
    rw [hd]
    have HInW := hid (idx_of (W := W) (p := x) (by rw [nI_len] at hk; exact hk) h1 h2).1
    clear hk h1 h2 hd k
    go_wp2_with fail
    refine (index_int c (own_readsI HO.out HBd.out) (by omega) (x : Int)).mono ?_
    rintro e w1 ⟨r, rfl, hr, e1⟩
    subst w1
    rcases hr with ⟨rfl, hno⟩ | ⟨k, rfl, hk, h1, h2⟩
    · exact absurd HInW.out (idx_no (W := W) (p := x) (fun j hj => hno j (by rw [nI_len]; exact hj)))
    · have hkm : k < m := by rw [nI_len, HWl.out] at hk; exact hk
      have hid1 := (idx_of (W := W) (p := x) (by rw [nI_len] at hk; exact hk) h1 h2).2
      have hVd : V = W.drop k := by
       have e := HVr.out
       rw [show n + 1 - m = (n - m) + 1 by omega, rgF_in HInW.out, hid1] at e
       exact e
      obtain ⟨g0, rfl, hmc⟩ : ∃ g0, a = some ⟨g0, 0, none⟩ ∧ m ≤ c := by
       rcases HO.out.2 with ⟨e, hz⟩ | ⟨gl, cap, cur, e, _, _, hnc, _⟩
       · omega
       · have e1 := Value.slice.inj e
         exact ⟨gl, e1.1, by rw [e1.2.2]; exact hnc⟩
      obtain ⟨q, hq⟩ : ∃ q, m = k + q := ⟨m - k, by omega⟩
      subst hq
      have HVl := hid (show V.length = q by rw [hVd, List.length_drop, HWl.out]; omega)
      have HT := hid (TailI.own (g := g0) (k := k) (m := q) (cap := c) (ys := nI (W.take k)) (zs := nI V) (by rw [nI_len, List.length_take, HWl.out]; omega) (by rw [nI_len]; exact HVl.out) (by rw [← nI_app, hVd, List.take_append_drop]; exact HO.out))
      have k0 : (0 : Int) ≤ (k : Int) := by omega
      have k1 : (k : Int) ≤ ((k + q : Nat) : Int) := by omega
      have k1' : (k : Int) ≤ (k : Int) + (q : Int) := by omega
      have k2 : ¬ c = k := by omega
      have k3 : k < c := by omega
      clear hk h1 h2 hid1 hVd HO HVr
      go_wp2_with fail
      go_ret
      rw [HVl.out]
      refine ⟨some ⟨g0, k, none⟩, c - k, ?_, HT.out, HW.out⟩
      simp
set_option maxHeartbeats 6400000 in
theorem impl_GraphRing {a : Option Addr} {n : Nat} (c : Nat) {ts : List Tk} {w : World} (h : RdV w a ts) (hv : ReadsV w a ts) (hl : ts.length = n) (hsm : smT ts) (hbd : bdTs ts) :
 Calls Tryz.prog 12 #[.slice a n c] w fun e w' => ∃ g cg, e = .returned (.slice g (ringL ts).length cg) ∧ TailI w' w.heap.size g (ringL ts).length (nI (ringL ts)) ∧ Below w.heap.size w w' := by
 obtain ⟨V, hV⟩ : ∃ V, ringL ts = V := ⟨_, rfl⟩
 rw [hV]
 have HL := hid hl
 have HR := hid h
 have HNo := hid (fun (q : deedsB ts = false ∨ leftL ts = []) => show V = [] by
  rw [← hV]
  unfold ringL
  rcases q with q | q
  · rw [q]; rfl
  · rw [q]; split <;> rfl)
 have HYe := hid (fun (q : deedsB ts = true) (p : Nat) (L : List Nat) (e : leftL ts = p :: L) => show V = rgF (nxE ts (lfS ts)) (n + 1) [] p by
  rw [← hV]
  unfold ringL
  rw [if_pos q, e, hl])
 clear hV h
 go_enter Tryz.func12, Tryz.ntmps12
 go_wp2_with fail
 refine (impl_DeedsOk c hv hl hsm hbd).mono ?_
 rintro e w1 ⟨rfl, b1⟩
 have B1 := hid b1
 replace HR := hid (HR.out.below b1 (Nat.le_refl _))
 clear b1 hl hsm hbd hv
 cases hdb : deedsB ts with
 | false =>
  have HF := hid (HNo.out (.inl hdb))
  clear hdb
  go_wp2_with fail
  go_ret
  rw [HF.out]
  exact ⟨none, 0, rfl, .inl ⟨rfl, rfl, rfl⟩, B1.out⟩
 | true =>
 have HDb := hid hdb
 have HOk := hid (deedsB_ok hdb)
 have hn : n ≤ 100 := by have := HOk.out.1; have := HL.out; omega
 clear hdb
 go_wp2_with fail
 refine (impl_edgesOf c HR.out HL.out HOk.out).mono ?_
 rintro e w2 ⟨g, M, ks, rfl, hk, hE, b2⟩
 have B2 := hid b2
 have HSame := hid (show sameE (allE ts ks ks.length) (edR ts) from fun q z => by rw [all_ed HOk.out hk, edR_mem])
 have HE := hid hE
 have HZ2 := hid b2.size
 clear hk b2 hE
 go_wp2_with fail
 refine (impl_takeAll HE.out hn HZ2.out).mono ?_
 rintro e w3 ⟨a3, c3, a4, c4, T, L, R', htk, rfl, oT, oL, hE3, b3⟩
 have hs := tkF_same n n HSame.out [] (List.range n)
 rw [htk] at hs
 have HLf := hid (show L = leftL ts by have := hs.2.1; unfold leftL; rw [HL.out]; exact this)
 have HE3 := hid hE3
 have HNx := hid (show (∀ x ∈ L, x < n) ∧ ∀ x ∈ L, ∀ r, leastP R' n ((x : Nat) : Int) r → r = ((nxE ts (lfS ts) x : Nat) : Int) ∧ nxE ts (lfS ts) x ∈ L by
  obtain ⟨R0, h1, h2, h3⟩ := inv_end ts
  rw [HL.out] at h1 h3
  rw [HLf.out]
  have h4 : sameE R' R0 := fun q z => (hs.2.2 q z).trans (h1 q z).symm
  refine ⟨fun x hx => by have := ((h2.mem x).1 hx).1; rw [HL.out] at this; exact this, fun x hx r hr => ?_⟩
  have h5 := nx_least h2 (p := x) (r := r) (by rw [HL.out]; exact h3 x hx) (by rw [HL.out]; exact least_same h4 hr)
  exact ⟨h5.1, h5.2.1⟩)
 have B3 := hid (B1.out.trans ((B2.out.trans b3).mono B1.out.size))
 have HZ3 := hid (Nat.le_trans (Nat.le_trans B1.out.size HZ2.out) b3.size)
 have OL := hid oL
 clear htk oT oL b3 hs HE HSame hE3
 cases hLc : L with
 | nil =>
  have HF := hid (HNo.out (.inr (by rw [← HLf.out]; exact hLc)))
  have hq : ((([] : List Nat).length : Int) == 0) = true := rfl
  clear hLc
  go_wp2_with fail
  go_ret
  rw [HF.out]
  exact ⟨none, 0, rfl, .inl ⟨rfl, rfl, rfl⟩, B3.out⟩
 | cons p L' =>
  have HF := hid (HYe.out HDb.out p L' (by rw [← HLf.out]; exact hLc))
  rw [hLc] at HNx OL
  obtain ⟨ll, hll⟩ : ∃ ll, (p :: L').length = ll := ⟨_, rfl⟩
  have hl0 : 0 < ll := by rw [← hll]; simp
  rw [hll] at OL ⊢
  obtain ⟨gl, rfl⟩ : ∃ gl, a4 = some ⟨gl, 0, none⟩ := by
   rcases OL.out.2 with ⟨e, hz⟩ | ⟨gl, cap, cur, e, _⟩
   · omega
   · exact ⟨gl, (Value.slice.inj e).1⟩
  have hc0 : w3.cell? ⟨gl, 0, none⟩ = some (.int .i64 (p : Int)) := by
   rw [OL.out.cellAt 0 (by omega)]
   simp [nI, ins]
  have hq : ((ll : Int) == 0) = false := by simp; omega
  have hl1 : (0 : Int) < (ll : Int) := by omega
  clear hLc hll
  go_wp2_with fail
  clear hc0
  refine (impl_ringFrom HE3.out hn HNx.out.1 HNx.out.2 (List.mem_cons.2 (.inl rfl))).mono ?_
  rintro e w4 ⟨g4, c5, rfl, t4, b4⟩
  rw [← HF.out] at t4
  rw [← HF.out]
  have T4 := hid (t4.lower HZ3.out)
  have B4 := hid (B3.out.trans (b4.mono HZ3.out))
  clear t4 b4
  go_wp2_with fail
  go_ret
  exact ⟨g4, c5, rfl, T4.out, B4.out⟩
end Go.Proofs.YtnbpblephmjfnaaGreat
