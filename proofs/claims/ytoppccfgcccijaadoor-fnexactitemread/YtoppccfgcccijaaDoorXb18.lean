/- The specification's decimal digits of a number. For every argument. -/
import Derived.Test.YtoppccfgcccijaaDoorMga
import Derived.Test.YtoppccfgcccijaaDoorDk
import Derived.Lib.SlBytesConst
import Derived.ArgAppend
import Derived.Deep.AppendLies
import Derived.Test.YtoppccfgcccijaaDoorAl
namespace Go.Proofs.YtoppccfgcccijaaDoor
open Go.RowKit
set_option maxRecDepth 100000

/-- What is left of a number's digits. -/
structure Dg (n : Nat) (r m : Nat) (bs : List Int) : Prop where
  lt : m < 10 ^ (r + 1)
  eq : lowD 20 n = bs ++ lowD r m
  len : bs.length + r = 20
theorem Dg.start {n : Nat} (h : n ≤ 9223372036854775808) : Dg n 20 n [] := ⟨by omega, rfl, rfl⟩
theorem Dg.step {n r m : Nat} {bs : List Int} (h : Dg n r m bs) (hm : 9 < m) : ∃ r', r = r' + 1 ∧ Dg n r' (m / 10) (bs ++ [48 + ((m % 10 : Nat) : Int)]) := by
  obtain ⟨h1, h2, h3⟩ := h
  cases r with
  | zero => simp at h1; omega
  | succ r =>
    refine ⟨r, rfl, ?_, ?_, ?_⟩
    · rw [Nat.pow_succ] at h1; omega
    · rw [h2, lowD_big hm, List.append_assoc]; rfl
    · rw [List.length_append, List.length_singleton]; omega
theorem Dg.last {n r m : Nat} {bs : List Int} (h : Dg n r m bs) (hm : ¬ 9 < m) : lowD 20 n = bs ++ [48 + (m : Int)] := by rw [h.eq, lowD_one hm]
theorem rev_step (L : List Int) (k : Nat) (h : k < L.length) : (L.drop k).reverse = (L.drop (k + 1)).reverse ++ [L.getD k 0] := by
  rw [List.drop_eq_getElem_cons h, List.reverse_cons]
  simp [List.getD, h]
set_option maxHeartbeats 3200000 in
theorem spec_l18digits_pos (n : Nat) (w : World) (hn : n ≤ 9223372036854775807) :
    Calls Tryd.prog 27 #[.int .i64 (n : Int)] w fun e w' => ∃ v, e = .returned v ∧ w'.ownsRow w.heap.size 5 1 v (decN n).length (bys (decN n)) ∧ Below w.heap.size w w' := by
  obtain ⟨i0, hi, hz0, hz1, hz2⟩ := info_parts Tryd.info5
  have e1 : ¬ (n : Int) = -9223372036854775808 := by omega
  have e2 : ¬ (n : Int) < 0 := by omega
  go_enter Tryd.func27, Tryd.ntmps27
  go_wp2_with fail
  clear e1 e2
  go_loopw [0, 3] (fun s v wr => ∃ (r m : Nat) (bs : List Int), s = .int .i64 (m : Int) ∧ m ≤ 9223372036854775807 ∧ Hid (Dg n r m bs) ∧ Hid (wr.ownsRow w.heap.size 5 1 v bs.length (bys bs)) ∧ Hid (Below w.heap.size w wr)) (fun s _ _ => (intOf s).toNat)
  case atStart => exact ⟨20, n, [], rfl, hn, hid (Dg.start (by omega)), hid (World.ownsRow_nil _ _ _ _), hid (Below.refl _ _)⟩
  case round =>
    obtain ⟨r, m, bs, rfl, hm, HD, HO, HB⟩ := hrel
    have hbl : bs.length ≤ 20 := by have := HD.out.len; omega
    have hsz := HB.out.size
    by_cases h9 : 9 < m
    · obtain ⟨r', rfl, hd⟩ := HD.out.step h9
      have HD2 := hid hd
      have h9' : (9 : Int) < (m : Int) := by omega
      have HN := hid (heap_alloc_new wr (.cells #[.int .u8 (48 + (m : Int) % 10)] 5))
      have HA := hid (HO.out.alloc (.cells #[.int .u8 (48 + (m : Int) % 10)] 5))
      have HBA := hid (HB.out.alloc hsz (.cells #[.int .u8 (48 + (m : Int) % 10)] 5))
      have hsz2 := HBA.out.size
      clear h9 hd
      go_wp2_with (at_builtin; refine wpList_append_own _ rfl _ _ 23 rfl w.heap.size 5 i0 (.int .u8 0) 1 1 Tryd.underlying23 hi hz0 hz1 hz2 rfl (by decide) _ _ _ rfl HA.out ⟨wr.heap.size, 0, none⟩ 1 1 [.int .u8 (48 + (m : Int) % 10)] rfl rfl (cell_one_new _ _ _) ?c2 ?c3 ?c4 ?c5 ?_)
      case c2 => intro u hu; simp at hu; subst hu; rfl
      case c3 => unfold maxLen; omega
      case c4 => omega
      case c5 => omega
      intro v' w1 hown' hgrow _
      have HB1 := hid (HBA.out.grown hgrow hsz2 (fun j hj => (HO.out.lt j hj).1))
      have HO1 := hid hown'
      clear hown' hgrow HO HA HN hsz2 HB HBA
      go_wp2_with fail
      go_roundw
      case rel =>
        refine ⟨r', m / 10, _, by go_num, by omega, HD2, ?_, HB1⟩
        have := HO1.out
        rw [List.length_append, List.length_singleton, bys_append]
        exact hid this
      case measure => simp [intOf]; omega
    · have h9' : ¬ (9 : Int) < (m : Int) := by omega
      have HL := hid (HD.out.last h9)
      have HN := hid (heap_alloc_new wr (.cells #[.int .u8 (48 + (m : Int))] 5))
      have HA := hid (HO.out.alloc (.cells #[.int .u8 (48 + (m : Int))] 5))
      have HBA := hid (HB.out.alloc hsz (.cells #[.int .u8 (48 + (m : Int))] 5))
      have hsz2 := HBA.out.size
      have hw1 : IntKind.i64.wrap (48 + (m : Int)) = 48 + (m : Int) := by simp [IntKind.wrap, IntKind.bits, IntKind.signed]; omega
      have hw2 : IntKind.u8.wrap (48 + (m : Int)) = 48 + (m : Int) := by simp [IntKind.wrap, IntKind.bits, IntKind.signed]; omega
      clear h9
      go_wp2_with (at_builtin; refine wpList_append_own _ rfl _ _ 23 rfl w.heap.size 5 i0 (.int .u8 0) 1 1 Tryd.underlying23 hi hz0 hz1 hz2 rfl (by decide) _ _ _ rfl HA.out ⟨wr.heap.size, 0, none⟩ 1 1 [.int .u8 (48 + (m : Int))] rfl rfl (cell_one_new _ _ _) ?d2 ?d3 ?d4 ?d5 ?_)
      case d2 => rfl
      case d3 => unfold maxLen; omega
      case d4 => omega
      case d5 => omega
      intro v' w1 hown' hgrow _
      have HB1 := hid (HBA.out.grown hgrow hsz2 (fun j hj => (HO.out.lt j hj).1))
      obtain ⟨L, hL⟩ : ∃ L, lowD 20 n = L := ⟨_, rfl⟩
      have HO1 := hid (show w1.ownsRow w.heap.size 5 1 v' L.length (bys L) by rw [← hL, HL.out, List.length_append, List.length_singleton, bys_append]; exact hown')
      have hlen : 1 ≤ L.length ∧ L.length ≤ 21 := by rw [← hL]; exact lowD_len 20 n
      have HDn := hid (show decN n = (L.drop 0).reverse by unfold decN; rw [hL]; rfl)
      clear hown' hgrow HO HA HN hsz2 HB HBA HD HL hL hw1 hw2 hsz
      obtain ⟨g, cv, rfl⟩ : ∃ g c, v' = .slice (some ⟨g, 0, none⟩) L.length c := by
        rcases HO1.out.2 with ⟨e, h0⟩ | ⟨g, cp, cu, e, _⟩
        · omega
        · exact ⟨g, cp, e⟩
      have HC := hid (show ∀ j, j < L.length → w1.cell? ⟨g, j, none⟩ = some (.int .u8 (L.getD j 0)) from fun j hj => by
        rw [HO1.out.cellAt j (by omega)]
        simp [bys, List.getD, hj])
      obtain ⟨l, hl⟩ : ∃ l, L.length = l := ⟨_, rfl⟩
      rw [hl] at hlen HC HO1
      have HLl := hid hl
      simp only [hl]
      clear hl
      have hw1 : IntKind.i64.wrap ((l : Int) - 1) = (l : Int) - 1 := by simp [IntKind.wrap, IntKind.bits, IntKind.signed]; omega
      go_wp2_with fail
      go_loopw [4, 5] (fun v s wr => ∃ k : Nat, k ≤ l ∧ s = .int .i64 ((k : Int) - 1) ∧ Hid (wr.ownsRow w1.heap.size 5 1 v (l - k) (bys (L.drop k).reverse)) ∧ Hid (Below w1.heap.size w1 wr)) (fun _ s _ => (intOf s + 1).toNat)
      case atStart =>
        refine ⟨l, Nat.le_refl _, rfl, hid ?_, hid (Below.refl _ _)⟩
        rw [List.drop_of_length_le (by rw [HLl.out]; exact Nat.le_refl _), Nat.sub_self]
        exact World.ownsRow_nil _ _ _ _
      case round =>
        obtain ⟨k, hk, rfl, HO, HB⟩ := hrel
        have hsz := HB.out.size
        by_cases hk0 : 0 < k
        · obtain ⟨k, rfl⟩ : ∃ k', k = k' + 1 := ⟨k - 1, by omega⟩
          have hge : (0 : Int) ≤ ((k + 1 : Nat) : Int) - 1 := by omega
          have hlt : ((k + 1 : Nat) : Int) - 1 < (l : Int) := by omega
          have hcell := (HB.out.cell (p := ⟨g, k, none⟩) (World.block_lt_of_cell? w1 _ (HC.out k (by omega)))).trans (HC.out k (by omega))
          have HA := hid (HO.out.alloc (.cells #[.int .u8 (L.getD k 0)] 5))
          have HBA := hid (HB.out.alloc hsz (.cells #[.int .u8 (L.getD k 0)] 5))
          have hsz2 := HBA.out.size
          have HRv := hid (rev_step L k (by rw [HLl.out]; omega))
          have hidx : ((k + 1 : Nat) : Int) - 1 = (k : Int) := by omega
          rw [hidx] at hge hlt ⊢
          clear hidx hk0
          go_wp2_with (at_builtin; refine wpList_append_own _ rfl _ _ 23 rfl w1.heap.size 5 i0 (.int .u8 0) 1 1 Tryd.underlying23 hi hz0 hz1 hz2 rfl (by decide) _ _ _ rfl HA.out ⟨wr.heap.size, 0, none⟩ 1 1 [.int .u8 (L.getD k 0)] rfl rfl (cell_one_new _ _ _) ?f2 ?f3 ?f4 ?f5 ?_)
          case f2 => intro u hu; simp at hu; subst hu; rfl
          case f3 => unfold maxLen; omega
          case f4 => omega
          case f5 => first | omega | exact hsz2 | (simp; omega)
          intro v2 w2 hown' hgrow _
          have HB1 := hid (HBA.out.grown hgrow hsz2 (fun j hj => (HO.out.lt j hj).1))
          have HO2 := hid (show w2.ownsRow w1.heap.size 5 1 v2 (l - k) (bys (L.drop k).reverse) by
            have := hown'
            rw [show l - (k + 1) + 1 = l - k by omega] at this
            rw [HRv.out, bys_append]
            exact this)
          clear hown' hgrow HO HA hsz2 HB HBA hcell
          go_wp2_with fail
          go_roundw
          case rel => exact ⟨k, by omega, by go_num, HO2, HB1⟩
          case measure => simp [intOf]
        · obtain rfl : k = 0 := by omega
          have hge : ¬ (0 : Int) ≤ ((0 : Nat) : Int) - 1 := by omega
          have HBf := hid (HB1.out.trans (HB.out.mono HB1.out.size))
          go_wp2_with fail
          go_ret
          refine ⟨_, rfl, ?_, HBf.out⟩
          rw [HDn.out, List.length_reverse, List.drop_zero, HLl.out]
          have := HO.out
          rw [Nat.sub_zero, List.drop_zero] at this
          exact owns_lower this HB1.out.size
/-- An owned row of bytes that is not empty, by its cells. -/
theorem own_bytes {w : World} {b n : Nat} {v : Value} {L : List Int} (h : w.ownsRow b 5 1 v n (bys L)) (hn : 0 < n) : ∃ g c, v = .slice (some ⟨g, 0, none⟩) n c ∧ L.length = n ∧ n ≤ c ∧ c ≤ maxLen ∧ b ≤ g ∧ g < w.heap.size ∧ ∀ j u, (bys L)[j]? = some u → w.cell? ((⟨g, 0, none⟩ : Addr).add j) = some u := by
  have h1 := h.1
  rw [bys_length] at h1
  rcases h.2 with ⟨e, h0⟩ | ⟨g, cp, cu, e, q0, q3, q1, q2, _⟩
  · omega
  · subst e
    refine ⟨g, cp, rfl, by omega, q1, q2, q0, (Array.getElem?_eq_some_iff.1 q3).1, fun j u hu => ?_⟩
    have hj := (List.getElem?_eq_some_iff.1 hu).1
    rw [bys_length] at hj
    rw [Addr.add_lit, Nat.zero_add]
    exact (h.cellAt j (by omega)).trans hu
theorem bys_ones (L : List Int) : ∀ u ∈ bys L, u.oneCell' = true := fun u hu => by
  unfold bys at hu
  obtain ⟨k, _, rfl⟩ := List.mem_map.1 hu
  rfl
/-- Bytes (one at least) in memory that is new since B; nothing is said of what stands behind them. -/
structure NewB (B : Nat) (w : World) (v : Value) (L : List Int) : Prop where
  ex : ∃ g c, v = .slice (some ⟨g, 0, none⟩) L.length c ∧ 0 < L.length ∧ L.length ≤ c ∧ c ≤ maxLen ∧ B ≤ g ∧ g < w.heap.size ∧ ∀ j u, (bys L)[j]? = some u → w.cell? ((⟨g, 0, none⟩ : Addr).add j) = some u
theorem NewB.own {w : World} {b : Nat} {v : Value} {L : List Int} (h : w.ownsRow b 5 1 v L.length (bys L)) (hn : 0 < L.length) : NewB b w v L := by
  obtain ⟨g, c, e, _, h1, h2, h3, h4, h5⟩ := own_bytes h hn
  exact ⟨g, c, e, hn, h1, h2, h3, h4, h5⟩
theorem NewB.below {B : Nat} {w w' : World} {v : Value} {L : List Int} (h : NewB B w v L) (b : Below w.heap.size w w') : NewB B w' v L := by
  obtain ⟨g, c, e, h0, h1, h2, h3, h4, h5⟩ := h.ex
  exact ⟨g, c, e, h0, h1, h2, h3, Nat.lt_of_lt_of_le h4 b.size, fun j u hu => (b.cell (World.block_lt_of_cell? w _ (h5 j u hu))).trans (h5 j u hu)⟩
theorem NewB.lower {B B' : Nat} {w : World} {v : Value} {L : List Int} (h : NewB B w v L) (hb : B' ≤ B) : NewB B' w v L := by
  obtain ⟨g, c, e, h0, h1, h2, h3, h4, h5⟩ := h.ex
  exact ⟨g, c, e, h0, h1, h2, Nat.le_trans hb h3, h4, h5⟩
theorem NewB.rd {B : Nat} {w : World} {v : Value} {L : List Int} (h : NewB B w v L) (hL : ∀ i, 0 ≤ L.getD i 0 ∧ L.getD i 0 ≤ 255) : ∃ a c, v = .slice a L.length c ∧ Reads w a L.length L := by
  obtain ⟨g, c, e, h0, h1, h2, h3, h4, h5⟩ := h.ex
  refine ⟨_, c, e, rfl, .inr ⟨g, 0, rfl, fun i hi => ?_⟩, hL⟩
  have := h5 i (.int .u8 (L.getD i 0)) (by simp [bys, List.getD, hi])
  rw [Addr.add_lit, Nat.zero_add] at this
  rw [Nat.zero_add]
  exact this
/-- A constant's bytes, marked behind their last. -/
theorem NewB.lit (w : World) (C : Array Value) (L : List Int) (hC : C.toList = bys L) (hn : 0 < L.length) (hm : L.length ≤ maxLen) (fz : Nat × Nat) : NewB w.heap.size (w.alloc (.cells C 5 fz)) (.slice (some ⟨w.heap.size, 0, none⟩) L.length L.length) L :=
  ⟨_, _, rfl, hn, Nat.le_refl _, hm, Nat.le_refl _, by rw [alloc_size]; omega, fun j u hu => World.news_of_block (heap_alloc_new w _) j u (by rw [hC]; exact hu)⟩
set_option maxHeartbeats 3200000 in
theorem spec_l18digits (n : Int) (w : World) (hn : -9223372036854775808 ≤ n ∧ n ≤ 9223372036854775807) :
    Calls Tryd.prog 27 #[.int .i64 n] w fun e w' => ∃ v, e = .returned v ∧ NewB w.heap.size w' v (decI n) ∧ Below w.heap.size w w' := by
  by_cases hp : 0 ≤ n
  · obtain ⟨m, rfl⟩ : ∃ m : Nat, n = (m : Int) := ⟨n.toNat, by omega⟩
    rw [show decI (m : Int) = decN m by unfold decI; rw [if_neg (by omega), Int.toNat_natCast]]
    refine (spec_l18digits_pos m w (by omega)).mono ?_
    rintro e w1 ⟨v, rfl, o, b⟩
    exact ⟨v, rfl, NewB.own o (by have := decN_len m; omega), b⟩
  obtain ⟨i0, hi, hz0, hz1, hz2⟩ := info_parts Tryd.info5
  by_cases hm : n = -9223372036854775808
  · subst hm
    have HB := hid (Below.alloc1 w (.cells #[.int .u8 45, .int .u8 57, .int .u8 50, .int .u8 50, .int .u8 51, .int .u8 51, .int .u8 55, .int .u8 50, .int .u8 48, .int .u8 51, .int .u8 54, .int .u8 56, .int .u8 53, .int .u8 52, .int .u8 55, .int .u8 55, .int .u8 53, .int .u8 56, .int .u8 48, .int .u8 56] 5 (20, 21)))
    have HO := hid (NewB.lit w #[.int .u8 45, .int .u8 57, .int .u8 50, .int .u8 50, .int .u8 51, .int .u8 51, .int .u8 55, .int .u8 50, .int .u8 48, .int .u8 51, .int .u8 54, .int .u8 56, .int .u8 53, .int .u8 52, .int .u8 55, .int .u8 55, .int .u8 53, .int .u8 56, .int .u8 48, .int .u8 56] (decI (-9223372036854775808)) (by rw [decI_min]; rfl) (by rw [decI_min]; simp) (by rw [decI_min]; unfold maxLen; simp) (20, 21))
    have hcv := Go.Lib.run_convert_bytes_const (P := Tryd.prog) w 23 5 #[.int .u8 45, .int .u8 57, .int .u8 50, .int .u8 50, .int .u8 51, .int .u8 51, .int .u8 55, .int .u8 50, .int .u8 48, .int .u8 51, .int .u8 54, .int .u8 56, .int .u8 53, .int .u8 52, .int .u8 55, .int .u8 55, .int .u8 53, .int .u8 56, .int .u8 48, .int .u8 56] 20 20 Tryd.underlying23 Tryd.underlying5
    go_enter Tryd.func27, Tryd.ntmps27
    go_wp2_with fail
    go_ret
    exact ⟨_, rfl, by have := HO.out; rw [decI_min] at *; exact this, HB.out⟩
  · obtain ⟨m, rfl⟩ : ∃ m : Nat, n = -(m : Int) := ⟨(-n).toNat, by omega⟩
    have e1 : ¬ -(m : Int) = -9223372036854775808 := by omega
    have e2 : -(m : Int) < 0 := by omega
    have hw : IntKind.i64.wrap (m : Int) = (m : Int) := by simp [IntKind.wrap, IntKind.bits, IntKind.signed]; omega
    have hnn : - -(m : Int) = (m : Int) := by omega
    have HD := hid (show decI (-(m : Int)) = 45 :: decN m by unfold decI; rw [if_pos e2, hnn, Int.toNat_natCast])
    have HO := hid (World.news_of_block (heap_alloc_new w (.cells #[.int .u8 45] 5 (1, 2))))
    have HB := hid (Below.alloc1 w (.cells #[.int .u8 45] 5 (1, 2)))
    have hcv := Go.Lib.run_convert_bytes_const (P := Tryd.prog) w 23 5 #[.int .u8 45] 1 1 Tryd.underlying23 Tryd.underlying5
    go_enter Tryd.func27, Tryd.ntmps27
    go_wp2_with fail
    clear hcv
    refine (spec_l18digits_pos m _ (by omega)).mono ?_
    rintro e w1 ⟨v, rfl, o, b⟩
    have hl := decN_len m
    obtain ⟨L, hL⟩ : ∃ L, decN m = L := ⟨_, rfl⟩
    rw [hL] at o hl
    have HL := hid hL
    obtain ⟨g, c, rfl, _, h1, h2, _, _, hc⟩ := own_bytes o (by omega)
    have HC := hid hc
    have HO1 := hid (show ∀ b', (some ⟨w.heap.size, 0, none⟩ : Option Addr) = some b' → ∀ j u, [Value.int .u8 45][j]? = some u → w1.cell? (b'.add j) = some u from fun b' e j u hu => by
      cases e
      have := HO.out j u hu
      exact (b.cell (World.block_lt_of_cell? _ _ this)).trans this)
    have HB1 := hid (HB.out.trans (b.mono HB.out.size))
    have hsz := HB1.out.size
    obtain ⟨l, hll⟩ : ∃ l, L.length = l := ⟨_, rfl⟩
    rw [hll] at hl h1
    simp only [hll]
    have HLl := hid hll
    clear hL hll o b hc HO HB e1 e2 hw hnn hp hm
    go_wp2_with (at_builtin; refine wpList_append_grows w1 rfl _ _ 23 rfl 5 i0 (.int .u8 0) 1 1 Tryd.underlying23 hi hz0 hz1 hz2 rfl (by decide) (some ⟨w.heap.size, 0, none⟩) 1 1 [.int .u8 45] rfl (fun e => by cases e) rfl HO1.out ⟨g, 0, none⟩ l c (bys L) rfl (by rw [bys_length, HLl.out, Nat.mul_one]) HC.out (bys_ones L) ?f2 ?f3 ?f4 ?_)
    case f2 => omega
    case f3 => unfold maxLen; omega
    case f4 => omega
    intro v2 w2 hown' hgrow
    have hb2 : Below w1.heap.size w1 w2 := (Below.refl _ _).grown hgrow (Nat.le_refl _) (fun j hj => by cases hj)
    have HB2 := hid (HB1.out.trans (hb2.mono hsz))
    have HO2 := hid (show NewB w.heap.size w2 v2 (decI (-(m : Int))) by
      refine NewB.lower (NewB.own (b := w1.heap.size) ?_ ?_) hsz
      · rw [HD.out, HL.out, List.length_cons, HLl.out, Nat.add_comm l 1]
        exact hown'
      · rw [HD.out]; simp)
    clear hown' hgrow hb2
    go_wp2_with fail
    go_ret
    exact ⟨_, rfl, HO2.out, HB2.out⟩
end Go.Proofs.YtoppccfgcccijaaDoor
