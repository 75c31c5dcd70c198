/- Texts of this proof in one: Yc14 Xc14 Vf14 Vg14. -/
import Derived.Test.YtjcjoabblafboaaGreatXd14
import Derived.Test.YtjcjoabblafboaaGreatMgm
import Derived.Test.YtjcjoabblafboaaGreatMgj
import Derived.Test.YtjcjoabblafboaaGreatMgl
import Derived.Maps.RangeWalk
/- The ring that is told is a ring of edges. No program; the deeds are right. -/

namespace Go.Proofs.YtjcjoabblafboaaGreat
open Go.RowKit
set_option maxRecDepth 100000
theorem least_ex {R : Eds} {n : Nat} {x : Int} (hf : firstB R n x = false) : ∃ r, leastP R n x r := by
 unfold firstB at hf
 have hf' := of_decide_eq_false hf
 by_cases h : ∃ k, k < n ∧ x ∈ R k
 · obtain ⟨k, hk⟩ := h
   have : ∀ m, (m < n ∧ x ∈ R m) → ∃ m, m < n ∧ x ∈ R m ∧ ∀ j, j < m → x ∉ R j := by
    intro m
    induction m using Nat.strongRecOn with
    | _ m ih =>
     intro hm
     by_cases hx : ∃ j, j < m ∧ x ∈ R j
     · obtain ⟨j, h1, h2⟩ := hx
       exact ih j h1 ⟨by omega, h2⟩
     · exact ⟨m, hm.1, hm.2, fun j hj z => hx ⟨j, hj, z⟩⟩
   obtain ⟨m, h1, h2, h3⟩ := this k hk
   exact ⟨(m : Int), .inr ⟨m, rfl, h1, h2, h3⟩⟩
 · exact absurd (fun j hj z => h ⟨j, hj, z⟩) hf'
theorem nx_edge (ts : List Tk) : ∀ x ∈ leftL ts, nxE ts (lfS ts) x < ts.length ∧ edB ts (nxE ts (lfS ts) x) x = true := by
 intro x hx
 obtain ⟨R, _, h2, h3⟩ := inv_end ts
 obtain ⟨r, hr⟩ := least_ex (h3 x hx)
 have e := (nx_least h2 (h3 x hx) hr).1
 rcases hr with ⟨z, _⟩ | ⟨k, z, hk, hm, _⟩
 · omega
 · have : k = nxE ts (lfS ts) x := by omega
   subst this
   obtain ⟨_, g2⟩ := (h2.edg _ _).1 hm
   obtain ⟨j, ej, g3, g4, g5⟩ := (edR_mem ts _ _).1 g2
   have : x = j := by omega
   subst this
   exact ⟨g3, g5⟩
def wayR (nx : Nat → Nat) (W : List Nat) (p : Nat) : Prop := (∀ j, j + 1 < W.length → W.getD (j + 1) 0 = nx (W.getD j 0)) ∧ (0 < W.length → p = nx (W.getD (W.length - 1) 0))
theorem getD_leftR {W V : List Nat} {j : Nat} (h : j < W.length) : (W ++ V).getD j 0 = W.getD j 0 := by
 simp [List.getD, List.getElem?_append_left h]
theorem getD_lastR (W : List Nat) (p : Nat) : (W ++ [p]).getD W.length 0 = p := by simp [List.getD]
theorem wayR_snoc {nx : Nat → Nat} {W : List Nat} {p : Nat} (h : wayR nx W p) : wayR nx (W ++ [p]) (nx p) := by
 refine ⟨fun j hj => ?_, fun hj => ?_⟩
 · rw [List.length_append, List.length_singleton] at hj
   by_cases hl : j + 1 < W.length
   · rw [getD_leftR hl, getD_leftR (by omega)]
     exact h.1 j hl
   · have e : j + 1 = W.length := by omega
     rw [e, getD_lastR, getD_leftR (by omega), show j = W.length - 1 by omega]
     exact h.2 (by omega)
 · rw [List.length_append, List.length_singleton, Nat.add_sub_cancel, getD_lastR]
theorem getD_dropR (W : List Nat) (k i : Nat) : (W.drop k).getD i 0 = W.getD (k + i) 0 := by
 simp [List.getD, List.getElem?_drop]
theorem rg_ring (nx : Nat → Nat) : ∀ (f : Nat) (W : List Nat) (p : Nat), wayR nx W p → ∀ V, rgF nx f W p = V → V = [] ∨ (0 < V.length ∧ ∀ i, i < V.length → V.getD ((i + 1) % V.length) 0 = nx (V.getD i 0))
 | 0, W, p, _, V, e => .inl (by rw [← e]; rfl)
 | f + 1, W, p, hw, V, e => by
  by_cases hin : p ∈ W
  · right
    rw [rgF_in hin] at e
    have hk : W.idxOf p < W.length := List.idxOf_lt_length_iff.2 hin
    have hkp : W.getD (W.idxOf p) 0 = p := by
     rw [show W.getD (W.idxOf p) 0 = W[W.idxOf p] by simp [List.getD, hk]]
     exact List.getElem_idxOf hk
    generalize W.idxOf p = k at hk hkp e
    have hlen : V.length = W.length - k := by rw [← e]; exact List.length_drop
    refine ⟨by omega, fun i hi => ?_⟩
    rw [← e, getD_dropR, getD_dropR, List.length_drop]
    by_cases hl : i + 1 < W.length - k
    · rw [Nat.mod_eq_of_lt hl]
      exact hw.1 (k + i) (by omega)
    · rw [show i + 1 = W.length - k by omega, Nat.mod_self, Nat.add_zero, hkp, show k + i = W.length - 1 by omega]
      exact hw.2 (by omega)
  · rw [rgF_on hin] at e
    exact rg_ring nx f (W ++ [p]) (nx p) (wayR_snoc hw) V e
theorem rg_some (nx : Nat → Nat) (n : Nat) (L : List Nat) (hL : ∀ x ∈ L, nx x ∈ L) (hn : ∀ x ∈ L, x < n) : ∀ (f : Nat) (W : List Nat) (p : Nat), (∀ x ∈ W, x ∈ L) → p ∈ L → W.Nodup → n + 1 ≤ f + W.length → rgF nx f W p ≠ []
 | 0, W, p, hW, hp, hd, hf => by
  have := nodup_le n W hd (fun x hx => hn x (hW x hx))
  omega
 | f + 1, W, p, hW, hp, hd, hf => by
  by_cases hin : p ∈ W
  · rw [rgF_in hin]
    have hk : W.idxOf p < W.length := List.idxOf_lt_length_iff.2 hin
    intro e
    have := congrArg List.length e
    rw [List.length_drop] at this
    simp at this
    omega
  · rw [rgF_on hin]
    refine rg_some nx n L hL hn f (W ++ [p]) (nx p) (fun x hx => ?_) (hL p hp) ?_ (by rw [List.length_append]; simp; omega)
    · rcases List.mem_append.1 hx with q | q
      · exact hW x q
      · have : x = p := by simpa using q
        rw [this]; exact hp
    · rw [List.nodup_append]
      refine ⟨hd, by simp, fun y hy z hz => ?_⟩
      have : z = p := by simpa using hz
      subst this
      exact fun e => hin (e ▸ hy)
theorem ring_edges {ts : List Tk} (hdb : deedsB ts = true) (hl : leftL ts ≠ []) : 2 ≤ (ringL ts).length ∧ ∀ i, i < (ringL ts).length → ((ringL ts).getD ((i + 1) % (ringL ts).length) 0, (ringL ts).getD i 0) ∈ prE ts ts.length ts.length := by
 obtain ⟨p, L', hpl⟩ : ∃ p L', leftL ts = p :: L' := by
  cases hc : leftL ts with
  | nil => exact absurd hc hl
  | cons p L' => exact ⟨p, L', rfl⟩
 have hp : p ∈ leftL ts := by rw [hpl]; exact List.mem_cons.2 (.inl rfl)
 have hr : ringL ts = rgF (nxE ts (lfS ts)) (ts.length + 1) [] p := by
  unfold ringL
  rw [if_pos hdb, hpl]
 have hL := fun x hx => (nx_left ts x hx).1
 have h1 := rgF_bd (nxE ts (lfS ts)) (leftL ts) hL (ts.length + 1) [] p (fun x hx => by cases hx) hp List.nodup_nil
 have h2 := rg_ring (nxE ts (lfS ts)) (ts.length + 1) [] p ⟨fun j hj => by simp at hj, fun hj => by simp at hj⟩ (ringL ts) hr.symm
 have h3 := rg_some (nxE ts (lfS ts)) ts.length (leftL ts) hL (left_lt ts) (ts.length + 1) [] p (fun x hx => by cases hx) hp List.nodup_nil (by simp)
 rw [← hr] at h1 h3
 generalize ringL ts = V at *
 rcases h2 with z | ⟨hpos, hnx⟩
 · exact absurd z h3
 have hin : ∀ i, i < V.length → V.getD i 0 ∈ leftL ts := fun i h => h1.1 _ (by rw [show V.getD i 0 = V[i] by simp [List.getD, h]]; exact List.getElem_mem h)
 refine ⟨?_, fun i hi => ?_⟩
 · rcases Nat.lt_or_ge V.length 2 with z | z
   · have e1 : V.length = 1 := by omega
     have h4 := hnx 0 (by omega)
     have h5 := (nx_edge ts _ (hin 0 (by omega))).2
     rw [← h4, e1] at h5
     unfold edB at h5
     rw [Bool.and_eq_true, decide_eq_true_iff] at h5
     exact absurd rfl h5.1
   · exact z
 · rw [hnx i hi]
   have h5 := nx_edge ts _ (hin i hi)
   exact (prE_mem ts _ _ _ _).2 ⟨h5.1, left_lt ts _ (hin i hi), h5.2⟩
end Go.Proofs.YtjcjoabblafboaaGreat
/- The program's ringFrom and GraphRing. Conditions: texts of at most 2^21 bytes. -/


namespace Go.Proofs.YtjcjoabblafboaaGreat
open Go.RowKit Go.Maps
set_option maxRecDepth 100000
set_option maxHeartbeats 1600000 in
theorem index_int {a : Option Addr} {n : Nat} (c : Nat) {zs : List Int} {w : World} (h : ReadsI w a n zs) (hn : n ≤ 2097152) (x : Int) :
 Calls Tryz.prog 101 #[.slice a n c, .int .i64 x] w fun e w' => ∃ r : Int, e = .returned (.int .i64 r) ∧ idxP zs x r ∧ w' = w := by
 have HL := hid h
 have HLe := hid h.len
 clear h
 go_enter Tryz.func101, Tryz.ntmps101
 go_wp2_with fail
 go_loopw [8] (fun i wr => ∃ k : Nat, k ≤ n ∧ i = .int .i64 k ∧ Hid (∀ j, j < k → zs.getD j 0 ≠ x) ∧ wr = w) (fun i _ => n - (intOf i).toNat)
 case atStart => exact ⟨0, Nat.zero_le _, rfl, hid (fun j hj => by omega), rfl⟩
 case round =>
  obtain ⟨k, hk, rfl, HA, rfl⟩ := hrel
  by_cases hlt : k < n
  · have hlt' : (k : Int) < (n : Int) := by omega
    have hk0 : (0 : Int) ≤ (k : Int) := by omega
    obtain ⟨bo, oo, rfl, hc⟩ := readsI_at HL.out hlt
    have HYe := hid (fun (e : zs.getD k 0 = x) => show idxP zs x (k : Int) from .inr ⟨k, rfl, by have := HLe.out; omega, e, HA.out⟩)
    have HNx := hid (fun (e : zs.getD k 0 ≠ x) j (hj : j < k + 1) => show zs.getD j 0 ≠ x from by
     by_cases hc : j < k
     · exact HA.out j hc
     · have : j = k := by omega
       subst this; exact e)
    obtain ⟨z, hz⟩ : ∃ z, zs.getD k 0 = z := ⟨_, rfl⟩
    rw [hz] at hc HYe HNx
    clear hz
    by_cases hzx : z = x
    · have hq : (x == z) = true := by simp [hzx]
      have HY := hid (HYe.out hzx)
      clear hzx
      go_wp2_with fail
      go_ret
      exact ⟨_, rfl, HY.out, rfl⟩
    · have hq : (x == z) = false := by simpa using fun e => hzx e.symm
      have HN := hid (HNx.out hzx)
      clear hzx
      go_wp2_with fail
      go_roundw
      case rel => exact ⟨k + 1, by omega, by go_num, HN, by first | trivial | rfl⟩
      case measure => simp [intOf]; omega
  · have hlt' : ¬ (k : Int) < (n : Int) := by omega
    have HE := hid (show idxP zs x (-1) from .inl ⟨rfl, fun j hj => HA.out j (by have := HLe.out; omega)⟩)
    go_wp2_with fail
    go_ret
    exact ⟨-1, rfl, HE.out, rfl⟩
set_option maxHeartbeats 1600000 in
theorem contains_int {a : Option Addr} {n : Nat} (c : Nat) {zs : List Int} {w : World} (h : ReadsI w a n zs) (hn : n ≤ 2097152) (x : Int) :
 Calls Tryz.prog 99 #[.slice a n c, .int .i64 x] w fun e w' => ∃ r : Int, e = .returned (.bool (decide (0 ≤ r))) ∧ idxP zs x r ∧ w' = w := by
 have HL := hid h
 clear h
 go_enter Tryz.func99, Tryz.ntmps99
 go_wp2_with fail
 refine (index_int c HL.out hn x).mono ?_
 rintro e w1 ⟨r, rfl, hr, e1⟩
 subst w1
 have HR := hid hr
 clear hr
 go_wp2_with fail
 go_ret
 exact ⟨r, rfl, HR.out, rfl⟩
set_option maxHeartbeats 6400000 in
theorem impl_ringFrom {base g n : Nat} {M : Nat → Nat} {R : Eds} {w : World} (h : EdM w base g n M R) (hn : n ≤ 100) {nx : Nat → Nat} {L : List Nat} (hL : ∀ x ∈ L, x < n) (hnx : ∀ x ∈ L, ∀ r, leastP R n ((x : Nat) : Int) r → r = ((nx x : Nat) : Int) ∧ nx x ∈ L) {p : Nat} (hp : p ∈ L) :
 Calls Tryz.prog 45 #[.slice (some ⟨g, 0, none⟩) n n, .int .i64 (p : Int)] w fun e w' => ∃ a c, e = .returned (.slice a (rgF nx (n + 1) [] p).length c) ∧ TailI w' w.heap.size a (rgF nx (n + 1) [] p).length (nI (rgF nx (n + 1) [] p)) ∧ Below w.heap.size w w' := by
 obtain ⟨V, hV⟩ : ∃ V, rgF nx (n + 1) [] p = V := ⟨_, rfl⟩
 rw [hV]
 have HV := hid hV
 have HE := hid h
 have HLt := hid hL
 have HNx := hid hnx
 have HP := hid hp
 obtain ⟨i0, hinf, hz0, hz1, hz2⟩ := infoI14
 obtain ⟨B0, hB0⟩ : ∃ B0, w.heap.size = B0 := ⟨_, rfl⟩
 have HB0 := hid hB0
 rw [hB0]
 clear hV h hL hnx hp
 go_enter Tryz.func45, Tryz.ntmps45
 go_wp2_with fail
 go_loopw [1, 5] (fun s1 s5 wr => ∃ (W : List Nat) (x m : Nat) (a : Option Addr) (c : Nat), s1 = .int .i64 (x : Int) ∧ s5 = .slice a m c ∧ m ≤ n ∧ Hid (W.length = m) ∧ Hid W.Nodup ∧ Hid (∀ y ∈ W, y ∈ L) ∧ Hid (x ∈ L) ∧ Hid (V = rgF nx (n + 1 - m) W x) ∧ Hid (wr.ownsRow B0 3 1 (.slice a m c) m (ins (nI W))) ∧ Hid (Below B0 w wr)) (fun _ s _ => n - lenV s)
 case atStart => exact ⟨[], p, 0, none, 0, rfl, rfl, Nat.zero_le _, hid rfl, hid List.nodup_nil, hid (fun y hy => by cases hy), HP, hid HV.out.symm, hid (World.ownsRow_nil _ _ _ _), hid (Below.refl _ _)⟩
 case round =>
  obtain ⟨W, x, m, a, c, rfl, rfl, hm, HWl, HNd, HWL, HXL, HVr, HO, HW⟩ := hrel
  have HWt := hid (fun y (hy : y ∈ W) => HLt.out y (HWL.out y hy))
  have HBd := hid (fun j => show -9223372036854775808 ≤ (nI W).getD j 0 ∧ (nI W).getD j 0 ≤ 9223372036854775807 by have := nI_bd14 HWt.out hn j; omega)
  have hxn := HLt.out x HXL.out
  have hZ : B0 ≤ wr.heap.size := by rw [← hB0]; exact HW.out.size
  have HZ := hid hZ
  clear hZ
  go_wp2_with fail
  refine (contains_int c (own_readsI HO.out HBd.out) (by omega) (x : Int)).mono ?_
  rintro e w1 ⟨r, rfl, hr, e1⟩
  subst w1
  rcases hr with ⟨rfl, hno⟩ | ⟨k, rfl, hk, h1, h2⟩
  · have HNo := hid (idx_no (W := W) (p := x) (fun j hj => hno j (by rw [nI_len]; exact hj)))
    have hd : decide ((0 : Int) ≤ -1) = false := rfl
    rw [hd]
    have HNd2 := hid (show (W ++ [x]).Nodup by
     rw [List.nodup_append]
     refine ⟨HNd.out, by simp, fun y hy z hz => ?_⟩
     have : z = x := by simpa using hz
     subst this
     exact fun e => HNo.out (e ▸ hy))
    have HWL2 := hid (show ∀ y ∈ W ++ [x], y ∈ L from fun y hy => by
     rcases List.mem_append.1 hy with q | q
     · exact HWL.out y q
     · have : y = x := by simpa using q
       rw [this]; exact HXL.out)
    have hm2 : m + 1 ≤ n := by
     have := nodup_le n (W ++ [x]) HNd2.out (fun y hy => HLt.out y (HWL2.out y hy))
     rw [List.length_append, HWl.out] at this
     simpa using this
    have HVr2 := hid (show V = rgF nx (n + 1 - (m + 1)) (W ++ [x]) (nx x) by rw [HVr.out, show n + 1 - m = (n + 1 - (m + 1)) + 1 by omega]; exact rgF_on HNo.out)
    have bA := Below.alloc1 wr (.cells #[.int .i64 (x : Int)] 3)
    have HA1 := hid (heap_alloc_new wr (.cells #[.int .i64 (x : Int)] 3))
    have OA := hid (owns_below bA (Nat.le_refl _) HO.out)
    have BA := hid (HW.out.trans (bA.mono HZ.out))
    have ZA := hid (show B0 ≤ (wr.alloc (.cells #[.int .i64 (x : Int)] 3)).heap.size from Nat.le_trans HZ.out bA.size)
    clear bA hno HO HW
    go_wp2_with (at_builtin; refine wpList_append_row rfl _ _ 29 rfl B0 3 i0 (.int .i64 0) 1 8 Tryz.underlying29 hinf hz0 hz1 hz2 rfl (by decide) _ m _ rfl OA.out (some ⟨wr.heap.size, 0, none⟩) 1 1 [.int .i64 (x : Int)] rfl rfl (.inr ⟨_, rfl, World.news_of_block HA1.out⟩) (fun e => by cases e) ?q1 ?q2 ?q3 ?q4 ?_)
    case q1 => simp [Value.oneCell']
    case q2 => unfold maxLen; omega
    case q3 => omega
    case q4 => exact ZA.out
    intro a5 c5 w5 o5 hg5
    have O5 := hid (show w5.ownsRow B0 3 1 (.slice a5 (m + 1) c5) (m + 1) (ins (nI (W ++ [x]))) by rw [nI_snoc]; exact o5)
    have B5 := hid (BA.out.grown hg5 ZA.out (fun r e => (OA.out.lt r e).1))
    have Z5 := hid (Nat.le_trans ZA.out hg5.size)
    clear o5 hg5 OA BA
    go_wp2_with fail
    refine (impl_leastAhead (HE.out.below (by rw [hB0]; exact B5.out)) hn (x : Int) (by omega) (by omega)).mono ?_
    rintro e w6 ⟨r, rfl, hl, b6⟩
    have hnx := HNx.out x HXL.out r hl
    obtain ⟨rfl, hin⟩ := hnx
    have HIn := hid hin
    have O6 := hid (owns_below b6 (Nat.le_refl _) O5.out)
    have B6 := hid (B5.out.trans (b6.mono Z5.out))
    clear hl hin b6 O5 B5
    go_wp2_with fail
    go_roundw
    case rel => exact ⟨W ++ [x], nx x, m + 1, a5, c5, rfl, rfl, hm2, hid (by rw [List.length_append, HWl.out]; rfl), HNd2, HWL2, HIn, HVr2, O6, B6⟩
    case measure => simp [lenV]; omega
  · have hd : decide ((0 : Int) ≤ (k : Int)) = true := decide_eq_true (by omega)
    rw [hd]
    have HInW := hid (idx_of (W := W) (p := x) (by rw [nI_len] at hk; exact hk) h1 h2).1
    clear hk h1 h2 hd k
    go_wp2_with fail
    refine (index_int c (own_readsI HO.out HBd.out) (by omega) (x : Int)).mono ?_
    rintro e w1 ⟨r, rfl, hr, e1⟩
    subst w1
    rcases hr with ⟨rfl, hno⟩ | ⟨k, rfl, hk, h1, h2⟩
    · exact absurd HInW.out (idx_no (W := W) (p := x) (fun j hj => hno j (by rw [nI_len]; exact hj)))
    · have hkm : k < m := by rw [nI_len, HWl.out] at hk; exact hk
      have hid1 := (idx_of (W := W) (p := x) (by rw [nI_len] at hk; exact hk) h1 h2).2
      have hVd : V = W.drop k := by
       have e := HVr.out
       rw [show n + 1 - m = (n - m) + 1 by omega, rgF_in HInW.out, hid1] at e
       exact e
      obtain ⟨g0, rfl, hmc⟩ : ∃ g0, a = some ⟨g0, 0, none⟩ ∧ m ≤ c := by
       rcases HO.out.2 with ⟨e, hz⟩ | ⟨gl, cap, cur, e, _, _, hnc, _⟩
       · omega
       · have e1 := Value.slice.inj e
         exact ⟨gl, e1.1, by rw [e1.2.2]; exact hnc⟩
      obtain ⟨q, hq⟩ : ∃ q, m = k + q := ⟨m - k, by omega⟩
      subst hq
      have HVl := hid (show V.length = q by rw [hVd, List.length_drop, HWl.out]; omega)
      have HT := hid (TailI.own (g := g0) (k := k) (m := q) (cap := c) (ys := nI (W.take k)) (zs := nI V) (by rw [nI_len, List.length_take, HWl.out]; omega) (by rw [nI_len]; exact HVl.out) (by rw [← nI_app, hVd, List.take_append_drop]; exact HO.out))
      have k0 : (0 : Int) ≤ (k : Int) := by omega
      have k1 : (k : Int) ≤ ((k + q : Nat) : Int) := by omega
      have k1' : (k : Int) ≤ (k : Int) + (q : Int) := by omega
      have k2 : ¬ c = k := by omega
      have k3 : k < c := by omega
      clear hk h1 h2 hid1 hVd HO HVr
      go_wp2_with fail
      go_ret
      rw [HVl.out]
      refine ⟨some ⟨g0, k, none⟩, c - k, ?_, HT.out, HW.out⟩
      simp
set_option maxHeartbeats 6400000 in
theorem impl_GraphRing {a : Option Addr} {n : Nat} (c : Nat) {ts : List Tk} {w : World} (h : RdV w a ts) (hv : ReadsV w a ts) (hl : ts.length = n) (hsm : smT ts) (hbd : bdTs ts) :
 Calls Tryz.prog 12 #[.slice a n c] w fun e w' => ∃ g cg, e = .returned (.slice g (ringL ts).length cg) ∧ TailI w' w.heap.size g (ringL ts).length (nI (ringL ts)) ∧ Below w.heap.size w w' := by
 obtain ⟨V, hV⟩ : ∃ V, ringL ts = V := ⟨_, rfl⟩
 rw [hV]
 have HL := hid hl
 have HR := hid h
 have HNo := hid (fun (q : deedsB ts = false ∨ leftL ts = []) => show V = [] by
  rw [← hV]
  unfold ringL
  rcases q with q | q
  · rw [q]; rfl
  · rw [q]; split <;> rfl)
 have HYe := hid (fun (q : deedsB ts = true) (p : Nat) (L : List Nat) (e : leftL ts = p :: L) => show V = rgF (nxE ts (lfS ts)) (n + 1) [] p by
  rw [← hV]
  unfold ringL
  rw [if_pos q, e, hl])
 clear hV h
 go_enter Tryz.func12, Tryz.ntmps12
 go_wp2_with fail
 refine (impl_DeedsOk c hv hl hsm hbd).mono ?_
 rintro e w1 ⟨rfl, b1⟩
 have B1 := hid b1
 replace HR := hid (HR.out.below b1 (Nat.le_refl _))
 clear b1 hl hsm hbd hv
 cases hdb : deedsB ts with
 | false =>
  have HF := hid (HNo.out (.inl hdb))
  clear hdb
  go_wp2_with fail
  go_ret
  rw [HF.out]
  exact ⟨none, 0, rfl, .inl ⟨rfl, rfl, rfl⟩, B1.out⟩
 | true =>
 have HDb := hid hdb
 have HOk := hid (deedsB_ok hdb)
 have hn : n ≤ 100 := by have := HOk.out.1; have := HL.out; omega
 clear hdb
 go_wp2_with fail
 refine (impl_edgesOf c HR.out HL.out HOk.out).mono ?_
 rintro e w2 ⟨g, M, ks, rfl, hk, hE, b2⟩
 have B2 := hid b2
 have HSame := hid (show sameE (allE ts ks ks.length) (edR ts) from fun q z => by rw [all_ed HOk.out hk, edR_mem])
 have HE := hid hE
 have HZ2 := hid b2.size
 clear hk b2 hE
 go_wp2_with fail
 refine (impl_takeAll HE.out hn HZ2.out).mono ?_
 rintro e w3 ⟨a3, c3, a4, c4, T, L, R', htk, rfl, oT, oL, hE3, b3⟩
 have hs := tkF_same n n HSame.out [] (List.range n)
 rw [htk] at hs
 have HLf := hid (show L = leftL ts by have := hs.2.1; unfold leftL; rw [HL.out]; exact this)
 have HE3 := hid hE3
 have HNx := hid (show (∀ x ∈ L, x < n) ∧ ∀ x ∈ L, ∀ r, leastP R' n ((x : Nat) : Int) r → r = ((nxE ts (lfS ts) x : Nat) : Int) ∧ nxE ts (lfS ts) x ∈ L by
  obtain ⟨R0, h1, h2, h3⟩ := inv_end ts
  rw [HL.out] at h1 h3
  rw [HLf.out]
  have h4 : sameE R' R0 := fun q z => (hs.2.2 q z).trans (h1 q z).symm
  refine ⟨fun x hx => by have := ((h2.mem x).1 hx).1; rw [HL.out] at this; exact this, fun x hx r hr => ?_⟩
  have h5 := nx_least h2 (p := x) (r := r) (by rw [HL.out]; exact h3 x hx) (by rw [HL.out]; exact least_same h4 hr)
  exact ⟨h5.1, h5.2.1⟩)
 have B3 := hid (B1.out.trans ((B2.out.trans b3).mono B1.out.size))
 have HZ3 := hid (Nat.le_trans (Nat.le_trans B1.out.size HZ2.out) b3.size)
 have OL := hid oL
 clear htk oT oL b3 hs HE HSame hE3
 cases hLc : L with
 | nil =>
  have HF := hid (HNo.out (.inr (by rw [← HLf.out]; exact hLc)))
  have hq : ((([] : List Nat).length : Int) == 0) = true := rfl
  clear hLc
  go_wp2_with fail
  go_ret
  rw [HF.out]
  exact ⟨none, 0, rfl, .inl ⟨rfl, rfl, rfl⟩, B3.out⟩
 | cons p L' =>
  have HF := hid (HYe.out HDb.out p L' (by rw [← HLf.out]; exact hLc))
  rw [hLc] at HNx OL
  obtain ⟨ll, hll⟩ : ∃ ll, (p :: L').length = ll := ⟨_, rfl⟩
  have hl0 : 0 < ll := by rw [← hll]; simp
  rw [hll] at OL ⊢
  obtain ⟨gl, rfl⟩ : ∃ gl, a4 = some ⟨gl, 0, none⟩ := by
   rcases OL.out.2 with ⟨e, hz⟩ | ⟨gl, cap, cur, e, _⟩
   · omega
   · exact ⟨gl, (Value.slice.inj e).1⟩
  have hc0 : w3.cell? ⟨gl, 0, none⟩ = some (.int .i64 (p : Int)) := by
   rw [OL.out.cellAt 0 (by omega)]
   simp [nI, ins]
  have hq : ((ll : Int) == 0) = false := by simp; omega
  have hl1 : (0 : Int) < (ll : Int) := by omega
  clear hLc hll
  go_wp2_with fail
  clear hc0
  refine (impl_ringFrom HE3.out hn HNx.out.1 HNx.out.2 (List.mem_cons.2 (.inl rfl))).mono ?_
  rintro e w4 ⟨g4, c5, rfl, t4, b4⟩
  rw [← HF.out] at t4
  rw [← HF.out]
  have T4 := hid (t4.lower HZ3.out)
  have B4 := hid (B3.out.trans (b4.mono HZ3.out))
  clear t4 b4
  go_wp2_with fail
  go_ret
  exact ⟨g4, c5, rfl, T4.out, B4.out⟩
end Go.Proofs.YtjcjoabblafboaaGreat
/- The contract of the program's pairs. Conditions: at most 100 deeds, edges among them. -/




namespace Go.Proofs.YtjcjoabblafboaaGreat
open Go.RowKit Go.Maps
set_option maxRecDepth 100000
section
variable {w : World} {k : TypeId} {H : Type} {R : Value → Option (DataW H × List MemPlace)} {b r n : Nat} {D : DataW H} {left : Lit → Bool} {cnt : Nat}
theorem rng_iter (h : w.ranges Tryz.prog k R b r n D left cnt) : ∃ x s c d, w.heap[r]? = some (.mapIter x s c d) := by
 obtain ⟨es, cl, si, se, c0, h1, h2, h3, h4, h5, _⟩ := h
 exact ⟨_, _, _, _, h5⟩
theorem rng_map (h : w.ranges Tryz.prog k R b r n D left cnt) : ∃ es cl, w.heap[b]? = some (.map es cl) := by
 obtain ⟨es, cl, si, se, c0, h1, _⟩ := h
 exact ⟨_, _, h1⟩
theorem row_kind {base : Nat} {e : TypeId} {s m : Nat} {v : Value} {xs : List Value} (h : w.ownsRow base e s v m xs) {g : Nat} (hg : v.ownBlock = some g) : ∃ c fz, w.heap[g]? = some (.cells c e fz) := by
 rcases h.2 with ⟨rfl, _⟩ | ⟨g', cap, cur, rfl, _, hh, _⟩
 · cases hg
 · cases hg
   exact ⟨_, _, hh⟩
theorem row_iter {base : Nat} {e : TypeId} {s m : Nat} {v : Value} {xs : List Value} (h : w.ranges Tryz.prog k R b r n D left cnt) (o : w.ownsRow base e s v m xs) : v.ownBlock ≠ some r ∧ v.ownBlock ≠ some b := by
 constructor
 · intro q
   obtain ⟨c, fz, h1⟩ := row_kind o q
   obtain ⟨x, y, z, u, h2⟩ := rng_iter h
   rw [h1] at h2; cases h2
 · intro q
   obtain ⟨c, fz, h1⟩ := row_kind o q
   obtain ⟨x, y, h2⟩ := rng_map h
   rw [h1] at h2; cases h2
end
theorem keyInt_inv (key : Value) (kl : Lit) (h : keyOf Tryz.prog 3 key = some kl) : ∃ x : Int, key = .int .i64 x := by
 obtain ⟨x, rfl, _⟩ := Maps.keyOf_int_inv Tryz.underlying3 h
 exact ⟨x, rfl⟩
theorem unit_inv14 (v : Value) (y : DataW Unit × List MemPlace) (h : unitElem v = some y) : ∃ _ : Unit, v = Value.agg #[] := ⟨(), (unitElem_inv h).1⟩
theorem same_int14 (x y : Int) : (Lit.int .i64 x).sameKey (.int .i64 y) = decide (x = y) := by
 by_cases h : x = y
 · subst h; simp [Lit.sameKey]
 · rw [sameKey_ne (fun e => h (by cases e; rfl)), decide_eq_false h]
def cameP (Ri : List Int) (left : Lit → Bool) (S : List Nat) : Prop := S.Nodup ∧ (∀ j : Nat, j ∈ S ↔ (j : Int) ∈ Ri ∧ left (.int .i64 (j : Int)) = false) ∧ ∀ x : Int, left (.int .i64 x) = true → x ∈ Ri
theorem came_start (Ri : List Int) : cameP Ri (Maps.has (momS Ri)) [] := by
 refine ⟨List.nodup_nil, fun j => ?_, fun x h => ?_⟩
 · rw [has_mom]; simp
 · rw [has_mom] at h; exact of_decide_eq_true h
theorem came_next {Ri : List Int} {left : Lit → Bool} {S : List Nat} (h : cameP Ri left S) {j : Nat} (hl : left (.int .i64 (j : Int)) = true) : cameP Ri (fun z => left z && !z.sameKey (.int .i64 (j : Int))) (S ++ [j]) := by
 obtain ⟨h1, h2, h3⟩ := h
 have hj : j ∉ S := fun q => by rw [((h2 j).1 q).2] at hl; cases hl
 refine ⟨?_, fun i => ?_, fun x q => ?_⟩
 · rw [List.nodup_append]
   exact ⟨h1, by simp, fun a ha b hb e => by subst e; simp at hb; subst hb; exact hj ha⟩
 · show i ∈ S ++ [j] ↔ (i : Int) ∈ Ri ∧ (left (.int .i64 (i : Int)) && !(Lit.int .i64 (i : Int)).sameKey (.int .i64 (j : Int))) = false
   rw [List.mem_append, h2 i, same_int14]
   by_cases e : i = j
   · subst e; simp [h3 _ hl]
   · have e' : ¬ (i : Int) = (j : Int) := by omega
     rw [decide_eq_false e']; simp [e]
 · rw [Bool.and_eq_true] at q
   exact h3 x q.1
theorem came_end {Ri : List Int} {left : Lit → Bool} {S : List Nat} (h : cameP Ri left S) (hl : ∀ kl, left kl = false) (j : Nat) : j ∈ S ↔ (j : Int) ∈ Ri := by
 rw [h.2.1 j, hl]; simp
def pairsP (R : Eds) (i : Nat) (Q : List Pr) : Prop := Q.Nodup ∧ ∀ p : Pr, p ∈ Q ↔ p.1 < i ∧ ((p.2 : Nat) : Int) ∈ R p.1
theorem pairs_next {R : Eds} {i : Nat} {Q : List Pr} (h : pairsP R i Q) {S : List Nat} (hn : S.Nodup) (hs : ∀ j : Nat, j ∈ S ↔ (j : Int) ∈ R i) : pairsP R (i + 1) (Q ++ S.map (fun j => (i, j))) := by
 refine ⟨?_, fun p => ?_⟩
 · rw [List.nodup_append]
   refine ⟨h.1, ?_, fun a ha b hb e => ?_⟩
   · unfold List.Nodup
     rw [List.pairwise_map]
     exact hn.imp (fun {a b} q e => q (by cases e; rfl))
   · subst e
     have := ((h.2 a).1 ha).1
     rw [List.mem_map] at hb
     obtain ⟨j, _, rfl⟩ := hb
     simp at this
 · rw [List.mem_append, h.2 p, List.mem_map]
   constructor
   · rintro (⟨q1, q2⟩ | ⟨j, q, rfl⟩)
     · exact ⟨by omega, q2⟩
     · exact ⟨by simp, (hs j).1 q⟩
   · rintro ⟨q1, q2⟩
     by_cases e : p.1 < i
     · exact .inl ⟨e, q2⟩
     · have e' : p.1 = i := by omega
       refine .inr ⟨p.2, ?_, by rw [← e']⟩
       rw [hs, ← e']; exact q2
theorem asc_of {l : List Pr} (h : l.Pairwise (fun x y => ¬ ltP y x)) (hn : l.Nodup) : l.Pairwise ltP := by
 refine (h.and hn).imp (fun {x y} q => ?_)
 obtain ⟨q1, q2⟩ := q
 have : ¬ (x.1 = y.1 ∧ x.2 = y.2) := fun z => q2 (Prod.ext z.1 z.2)
 unfold ltP at q1 ⊢
 omega
set_option maxHeartbeats 12800000 in
theorem impl_pairs {base g n : Nat} {M : Nat → Nat} {R : Eds} {w : World} (h : EdM w base g n M R) (hn : n ≤ 100) (hR : ∀ i, i < n → ∀ z ∈ R i, ∃ j : Nat, z = (j : Int) ∧ j < n) :
 Calls Tryz.prog 42 #[.slice (some ⟨g, 0, none⟩) n n] w fun e w' => ∃ (l : List Pr) (a : Option Addr) (c : Nat), e = .returned (.slice a l.length c) ∧ l.Pairwise ltP ∧ (∀ p : Pr, p ∈ l ↔ p.1 < n ∧ ((p.2 : Nat) : Int) ∈ R p.1) ∧ w'.ownsRow w.heap.size 33 2 (.slice a l.length c) l.length (fP l) ∧ Below w.heap.size w w' := by
 have HE := hid h
 have HRb := hid hR
 obtain ⟨i0, hinf, hz0, hz1, hz2⟩ := infoP
 clear h hR
 go_enter Tryz.func42, Tryz.ntmps42
 go_wp2_with fail
 go_loopw [3, 9] (fun s3 s9 wr => ∃ (i : Nat) (Q : List Pr) (a : Option Addr) (c : Nat), i ≤ n ∧ s9 = .int .i64 i ∧ s3 = .slice a Q.length c ∧ Hid (pairsP R i Q) ∧ Hid (Q.length ≤ i * 100) ∧ Hid (wr.ownsRow w.heap.size 33 2 (.slice a Q.length c) Q.length (fP Q)) ∧ Hid (Below w.heap.size w wr)) (fun _ s _ => n - (intOf s).toNat)
 case atStart => exact ⟨0, [], none, 0, Nat.zero_le _, rfl, rfl, hid ⟨List.nodup_nil, fun p => by simp⟩, hid (by simp), hid (World.ownsRow_nil _ _ _ _), hid (Below.refl _ _)⟩
 case round =>
  obtain ⟨i, Q, a, c, hi, rfl, rfl, HP, HQ, HO, HW⟩ := hrel
  by_cases hlt : i < n
  · have hlt' : (i : Int) < (n : Int) := by omega
    have hi0 : (0 : Int) ≤ (i : Int) := by omega
    have HEr := hid (HE.out.below HW.out)
    have hcl := HEr.out.cell hlt
    have HMi := hid (HEr.out.map i hlt)
    obtain ⟨es0, cl0, hmb⟩ := HE.out.isMap hlt
    have HMl := hid (Array.getElem?_eq_some_iff.1 hmb).1
    have HRi := hid (HRb.out i hlt)
    have HPn := hid (fun S hS hS2 => pairs_next HP.out (S := S) hS hS2)
    have HQz := hid (show Q.length ≤ 10000 by have := HQ.out; omega)
    obtain ⟨Ri, hRi⟩ : ∃ Ri, R i = Ri := ⟨_, rfl⟩
    have HRR := hid hRi
    rw [hRi] at HMi HRi HPn
    obtain ⟨mi, hmi⟩ : ∃ mi, M i = mi := ⟨_, rfl⟩
    rw [hmi] at hcl HMi HMl
    obtain ⟨r, hr⟩ : ∃ r, wr.heap.size = r := ⟨_, rfl⟩
    have HRg := hid hr
    have HRs := hid (show w.heap.size ≤ r by rw [← hr]; exact HW.out.size)
    clear hmb hRi hmi HEr HP
    go_wp2_with (at_range; refine wpList_range_own _ rfl _ 80 rfl 3 82 law14 Tryz.underlying80 (unitElem (H := Unit)) mi Ri.length (momS Ri) rfl HMi.out ?_; intro w0 hrg0 hg0 hs0)
    go_frame
    rw [hr] at hrg0
    try rw [hr]
    have HG0 := hid hrg0
    have HO0 := hid (HO.out.kept hg0 (by cases hv : Value.ownBlock (.slice a Q.length c) with
     | none => exact .inl rfl
     | some q => exact .inr (by simp)))
    have HW0 := hid (HW.out.grown hg0 HW.out.size (fun j hj => by cases hj))
    clear hrg0 hg0 hs0 HMi hcl hr
    go_loopw [3] (fun s3 wq => ∃ (left : Lit → Bool) (cnt : Nat) (S : List Nat) (a : Option Addr) (c : Nat), s3 = .slice a (Q ++ S.map (fun j => (i, j))).length c ∧ wq.ranges Tryz.prog 3 (unitElem (H := Unit)) mi r Ri.length (momS Ri) left cnt ∧ Hid (cameP Ri left S) ∧ Hid (wq.ownsRow w.heap.size 33 2 (.slice a (Q ++ S.map (fun j => (i, j))).length c) (Q ++ S.map (fun j => (i, j))).length (fP (Q ++ S.map (fun j => (i, j))))) ∧ Hid (Below w.heap.size w wq)) (fun _ wq => wq.rangeLeft mi r)
    case atStart => exact ⟨_, _, [], a, c, by simp, HG0.out, hid (came_start Ri), by simpa using HO0, HW0⟩
    case round =>
     clear HO HW HG0 HO0 HW0
     obtain ⟨left, cnt, S, a, c, rfl, hrg, HC, HO, HW⟩ := hrel
     have HSl := hid (show S.length ≤ 100 from Nat.le_trans (nodup_le n S HC.out.1 (fun j hj => by
      obtain ⟨j', e, hj'⟩ := HRi.out _ ((HC.out.2.1 j).1 hj).1
      omega)) hn)
     obtain ⟨X, hX⟩ : ∃ X, Q ++ S.map (fun j => (i, j)) = X := ⟨_, rfl⟩
     have HXs := hid (fun j => show Q ++ (S ++ [j]).map (fun j => (i, j)) = X ++ [(i, j)] by rw [List.map_append, ← List.append_assoc, hX]; rfl)
     have HXl := hid (show X.length ≤ 10100 by rw [← hX, List.length_append, List.length_map]; have := HSl.out; have := HQz.out; omega)
     have HXi := hid (show X.length ≤ i * 100 + 100 by rw [← hX, List.length_append, List.length_map]; have := HSl.out; have := HQ.out; omega)
     have HXX := hid hX
     rw [hX] at HO
     try rw [hX]
     clear hX
     go_wp2_with (first | (at_next; refine wpList_next_ranges _ rfl _ rfl 3 law14 (unitElem (H := Unit)) (Value.int .i64) (fun _ : Unit => Value.agg #[]) keyInt_inv unit_inv14 mi r Ri.length (momS Ri) left cnt rfl hrg ?_ ?_) | go_in)
     · intro hc0 hl0
       have HN := hid (show pairsP R (i + 1) X by rw [← HXX.out]; exact HPn.out S HC.out.1 (came_end HC.out hl0))
       clear hc0 hl0
       go_wp2_with fail
       go_roundw
       case rel => exact ⟨i + 1, X, a, c, by omega, by go_num, rfl, HN, hid (by have := HXi.out; omega), HO, HW⟩
       case measure => simp [intOf]; omega
     · intro x u kl y w1 cnt1 hkey hlx hv hat hrg1 hct hg1 hs1 hen
       obtain ⟨x', ex, rfl, _⟩ := Maps.keyOf_int_inv Tryz.underlying3 hkey
       cases ex
       obtain ⟨j, rfl, hjn⟩ := HRi.out x (HC.out.2.2 x hlx)
       have HC1 := hid (came_next HC.out hlx)
       have ne1 := (row_iter hrg HO.out)
       have HO1 := hid (HO.out.kept hg1 (.inr ne1.1))
       have HW1 := hid (HW.out.grown hg1 HW.out.size (fun q hq => by cases hq; exact HRs.out))
       have hrA := hrg1.alloc (.cells #[.int .i64 (i : Int), .int .i64 (j : Int)] 33)
       have bA := Below.alloc1 w1 (.cells #[.int .i64 (i : Int), .int .i64 (j : Int)] 33)
       have HA1 := hid (heap_alloc_new w1 (.cells #[.int .i64 (i : Int), .int .i64 (j : Int)] 33))
       have OA := hid (owns_below bA (Nat.le_refl _) HO1.out)
       have BA := hid (HW1.out.trans (bA.mono HW1.out.size))
       have ne2 := row_iter hrA OA.out
       have HLe := hid (hrg.left_eq)
       have HCt := hid hct
       clear bA hkey hv hat hlx hg1 hs1 hrg1 hrg ne1 hct
       go_wp2_with (at_builtin; refine wpList_append_row rfl _ _ 27 rfl w.heap.size 33 i0 (.agg #[.int .i64 0, .int .i64 0]) 2 16 Tryz.underlying27 hinf hz0 hz1 hz2 rfl (by decide) _ X.length (fP X) rfl OA.out (some ⟨w1.heap.size, 0, none⟩) 1 1 [.int .i64 (i : Int), .int .i64 (j : Int)] rfl rfl (.inr ⟨_, rfl, World.news_of_block HA1.out⟩) (fun e => by cases e) ?k1 ?k2 ?k3 ?k4 ?_)
       case k1 => simp [Value.oneCell']
       case k2 => unfold maxLen; have := HXl.out; omega
       case k3 => have := HXl.out; omega
       case k4 => exact BA.out.size
       intro a5 c5 w5 o5 hg5
       have O5 := hid (show w5.ownsRow w.heap.size 33 2 (.slice a5 (X.length + 1) c5) (X.length + 1) (fP (X ++ [(i, j)])) by rw [fP_app, fP_one]; exact o5)
       have B5 := hid (BA.out.grown hg5 BA.out.size (fun r e => (OA.out.lt r e).1))
       have hrg5 := hrA.kept hg5 (fun e => ne2.2 e.symm) (fun e => ne2.1 e.symm)
       have HN3 := hid (show (X ++ [(i, j)]).length = X.length + 1 by rw [List.length_append]; rfl)
       clear o5 hg5 hen hrA ne2
       go_wp2_with fail
       go_roundw
       case rel =>
        refine ⟨_, cnt1, S ++ [j], a5, c5, by rw [HXs.out, HN3.out], hrg5, HC1, hid ?_, B5⟩
        rw [HXs.out, HN3.out]; exact O5.out
       case measure => rw [hrg5.left_eq, HLe.out]; exact HCt.out
  · have hlt' : ¬ (i : Int) < (n : Int) := by omega
    obtain rfl : i = n := by omega
    have HQz := hid (show Q.length ≤ 2097152 by have := HQ.out; omega)
    go_wp2_with fail
    refine (sort_pairs Q rfl wr HO.out HQz.out).mono ?_
    rintro e w5 ⟨rfl, l, hp, hs, ho, hgr⟩
    have HLn := hid (hp.length_eq)
    have B5 := hid (HW.out.grown hgr HW.out.size (fun r e => (HO.out.lt r e).1))
    have HAs := hid (asc_of hs (hp.nodup_iff.2 HP.out.1))
    have HMm := hid (fun p => (hp.mem_iff (a := p)).trans (HP.out.2 p))
    have HOo := hid ho
    clear hp hs ho hgr
    go_wp2_with fail
    go_ret
    refine ⟨l, a, c, by rw [HLn.out]; rfl, HAs.out, HMm.out, ?_, B5.out⟩
    rw [HLn.out]; exact HOo.out
end Go.Proofs.YtjcjoabblafboaaGreat
/- The contract of the program's GraphEdges. Conditions: texts of at most 2^21 bytes. -/



namespace Go.Proofs.YtjcjoabblafboaaGreat
open Go.RowKit
set_option maxRecDepth 100000
set_option maxHeartbeats 6400000 in
theorem impl_GraphEdges {a : Option Addr} {n : Nat} (c : Nat) {ts : List Tk} {w : World} (h : RdV w a ts) (hv : ReadsV w a ts) (hl : ts.length = n) (hsm : smT ts) (hbd : bdTs ts) :
 Calls Tryz.prog 9 #[.slice a n c] w fun e w' => ∃ g cg, e = .returned (.slice g (edP ts).length cg) ∧ w'.ownsRow w.heap.size 33 2 (.slice g (edP ts).length cg) (edP ts).length (fP (edP ts)) ∧ Below w.heap.size w w' := by
 obtain ⟨V, hV⟩ : ∃ V, edP ts = V := ⟨_, rfl⟩
 rw [hV]
 have HVV := hid hV
 have HL := hid hl
 have HR := hid h
 clear hV h
 go_enter Tryz.func9, Tryz.ntmps9
 go_wp2_with fail
 refine (impl_DeedsOk c hv hl hsm hbd).mono ?_
 rintro e w1 ⟨rfl, b1⟩
 have B1 := hid b1
 replace HR := hid (HR.out.below b1 (Nat.le_refl _))
 clear b1 hl hsm hbd hv
 cases hdb : deedsB ts with
 | false =>
  have HF := hid (show V = [] by rw [← HVV.out]; unfold edP; rw [if_neg (by rw [hdb]; simp)])
  clear hdb
  go_wp2_with fail
  go_ret
  rw [HF.out]
  exact ⟨none, 0, rfl, World.ownsRow_nil _ _ _ _, B1.out⟩
 | true =>
 have HVe := hid (show V = prE ts n n by rw [← HVV.out]; unfold edP; rw [if_pos hdb, HL.out])
 have HOk := hid (deedsB_ok hdb)
 have hn : n ≤ 100 := by have := HOk.out.1; have := HL.out; omega
 clear hdb HVV
 go_wp2_with fail
 refine (impl_edgesOf c HR.out HL.out HOk.out).mono ?_
 rintro e w2 ⟨g, M, ks, rfl, hk, hE, b2⟩
 have B2 := hid (B1.out.trans (b2.mono B1.out.size))
 have HEd := hid (all_ed HOk.out hk)
 have HE := hid hE
 clear hk b2 hE
 go_wp2_with fail
 refine (impl_pairs HE.out hn (fun i hi z hz => by
  obtain ⟨j, e, _, hj, _⟩ := (HEd.out i z).1 hz
  exact ⟨j, e, by have := HL.out; omega⟩)).mono ?_
 rintro e w3 ⟨l, a3, c3, rfl, hs, hm, ho, b3⟩
 have HLl := hid (show l = V by
  rw [HVe.out]
  refine asc_eq l _ hs (prE_asc ts n n) (fun p => ?_)
  obtain ⟨i, j⟩ := p
  rw [hm, prE_mem]
  show i < n ∧ (j : Int) ∈ _ ↔ _
  rw [HEd.out]
  constructor
  · rintro ⟨h1, j', e, h2, h3, h4⟩
    have : j = j' := by omega
    subst this
    exact ⟨h1, by have := HL.out; omega, h4⟩
  · rintro ⟨h1, h2, h3⟩
    exact ⟨h1, j, rfl, by have := HL.out; omega, by have := HL.out; omega, h3⟩)
 have B3 := hid (B2.out.trans (b3.mono B2.out.size))
 have HO := hid (owns_lower ho B2.out.size)
 clear hs hm ho b3
 go_wp2_with fail
 go_ret
 rw [← HLl.out]
 exact ⟨a3, c3, rfl, HO.out, B3.out⟩
end Go.Proofs.YtjcjoabblafboaaGreat
