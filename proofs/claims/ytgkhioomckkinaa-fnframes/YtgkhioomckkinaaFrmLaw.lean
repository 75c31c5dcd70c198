/- FnFrames' walk: for every code the law answers true and writes nothing that was there. -/
import Derived.Test.YtgkhioomckkinaaNil
import Derived.Test.YtgkhioomckkinaaBack
import Derived.Test.YtgkhioomckkinaaFai
import Derived.Test.YtgkhioomckkinaaDrawf
import Derived.Test.YtgkhioomckkinaaNumLaw
import Derived.Deep.RegionWith
namespace Go.Proofs.Ytgkhioomckkinaa
open Go.RowKit

theorem own_nil {w : World} {base : Nat} {ad : Option Addr} {n cap : Nat} {xs : List Value} (h : w.ownsRow base 5 1 (.slice ad n cap) n xs) : (ad = none → cap = 0) ∧ n ≤ cap := by
  rcases h.2 with ⟨e, rfl⟩ | ⟨g, cap', cur, e, _, _, hn, _⟩
  · cases e; exact ⟨fun _ => rfl, Nat.le_refl _⟩
  · cases e; exact ⟨(fun e => by cases e), hn⟩
theorem bd_five : ∀ i, 0 ≤ ([1, 2, 3, 4, 5] : List Int).getD i 0 ∧ ([1, 2, 3, 4, 5] : List Int).getD i 0 ≤ 255 := by
  intro i
  match i with
  | 0 => decide
  | 1 => decide
  | 2 => decide
  | 3 => decide
  | 4 => decide
  | i + 5 => simp

theorem bys_set (F : List Int) (i : Nat) (c : Int) : (bys F).set i (.int .u8 c) = bys (F.set i c) := by simp [bys, List.map_set]
theorem bd_set {F : List Int} (hb : ∀ i, 0 ≤ F.getD i 0 ∧ F.getD i 0 ≤ 255) (i : Nat) (c : Int) (h0 : 0 ≤ c) (h1 : c ≤ 255) : ∀ j, 0 ≤ (F.set i c).getD j 0 ∧ (F.set i c).getD j 0 ≤ 255 := by
  intro j
  by_cases e : i = j
  · subst e
    by_cases hi : i < F.length
    · rw [getD_set_eq _ _ _ hi]; exact ⟨h0, h1⟩
    · rw [List.set_eq_of_length_le (by omega)]; exact hb i
  · rw [getD_set_ne _ _ _ _ e]; exact hb j

set_option maxRecDepth 100000 in
set_option maxHeartbeats 3200000 in
theorem lawFrames {ad : Option Addr} {n : Nat} (cap : Nat) {zs : List Int} {w : World} (h : Reads w ad n zs) (hm : n ≤ maxLen) :
    Calls Try.prog 4 #[.slice ad n cap] w fun e w' => e = .returned (.bool true) ∧ Below w.heap.size w w' := by
  unfold maxLen at hm
  obtain ⟨i0, hi, hz0, hz1, hz2⟩ := info_parts Try.info5
  by_cases hbig : 1048576 < n
  · go_enter Try.func4, Try.ntmps4
    go_wp2
    go_ret
    exact ⟨rfl, Below.refl _ _⟩
  have hn : n ≤ 1048576 := by omega
  go_enter Try.func4, Try.ntmps4
  go_wp2_with (go_at_call 5; go_in)
  refine (drawFrame cap h (by omega)).mono ?_
  rintro e w1 ⟨kind, v1, L, rfl, o1, hLb, hLl, b1⟩
  obtain ⟨adB, capB, rfl, rB, dB⟩ := Reads.own o1 hLb
  have hnil := (own_nil o1).1
  clear o1
  go_wp2_with fail
  refine (impl_Frame capB rB (by omega) kind).mono ?_
  rintro e w2 ⟨v2, rfl, o2, b2⟩
  have rB := rB.below b2 (Nat.le_refl _)
  have B2 := b1.trans (b2.mono b1.size)
  clear b2 b1
  have hFb := frameOf_bd kind L hLb
  obtain ⟨adF, capF, rfl, rF, dF⟩ := Reads.own o2 hFb
  go_wp2_with fail
  refine (spec_Frame_any capB hnil rB (by omega) kind).mono ?_
  rintro e w3 ⟨v3, rfl, o3, b3⟩
  obtain ⟨_, _, rfl, _, _⟩ := Reads.own o3 hFb
  have rB := rB.below b3 (Nat.le_refl _)
  have rF := rF.below b3 (Nat.le_refl _)
  have B3 := B2.trans (b3.mono B2.size)
  clear o2 o3 b3 B2
  by_cases hk : 1 ≤ kind ∧ kind ≤ 255 ∧ L.length ≤ 1000
  · obtain ⟨k1, k255, hL1⟩ := hk
    obtain ⟨H, X, pp⟩ := parts_of kind L k1 k255 hL1 hLb
    rw [frameOf_yes kind L ⟨k1, k255, hL1⟩] at rF hFb
    rw [frameOf_yes kind L ⟨k1, k255, hL1⟩]
    have hFl := pp.lenF
    have PP := hid pp
    clear pp
    generalize frameL kind L = F at *
    rw [hFl] at rF
    simp only [hFl]
    generalize hm0 : L.length = m at *
    have HM := hid hm0
    clear hm0
    go_wp2_with fail
    have b4 : Below w.heap.size w (w3.alloc (.cells #[.int .u8 1, .int .u8 2, .int .u8 3, .int .u8 4, .int .u8 5] 5)) := B3.alloc B3.size _
    have bb : Below w3.heap.size w3 (w3.alloc (.cells #[.int .u8 1, .int .u8 2, .int .u8 3, .int .u8 4, .int .u8 5] 5)) := (Below.refl w3.heap.size w3).alloc (Nat.le_refl _) _
    have f4 : Reads (w3.alloc (.cells #[.int .u8 1, .int .u8 2, .int .u8 3, .int .u8 4, .int .u8 5] 5)) (some ⟨w3.heap.size, 0, none⟩) 5 [1, 2, 3, 4, 5] := by
      obtain ⟨ad', cap', e, r, _⟩ := Reads.own (zs := [1, 2, 3, 4, 5]) (World.ownsRow_lit (base := w3.heap.size) (e := 5) (size := 1) w3 #[.int .u8 1, .int .u8 2, .int .u8 3, .int .u8 4, .int .u8 5] 5 (Nat.le_refl _) (by unfold maxLen; omega) rfl) bd_five
      obtain ⟨rfl, _, rfl⟩ := Value.slice.inj e
      exact r
    have h4 := h.below b4 (Nat.le_refl _)
    have rB := rB.below bb (Nat.le_refl _)
    have rF := rF.below bb (Nat.le_refl _)
    clear bb
    generalize w3.alloc (.cells #[.int .u8 1, .int .u8 2, .int .u8 3, .int .u8 4, .int .u8 5] 5) = w4 at *
    refine (at_any cap h4 (by omega) 1 (by omega) (by omega)).mono ?_
    rintro e w5 ⟨y, rfl, hy0, hy1, rfl⟩
    obtain ⟨k, hk⟩ := Int.eq_ofNat_of_zero_le (show 0 ≤ y % 6 by omega)
    have hk3 : k ≤ 5 := by omega
    have hk3' : (k : Int) ≤ 5 := by omega
    have F4 := hid (f4.cut3 k hk3)
    generalize ([1, 2, 3, 4, 5] : List Int).take k = Fr at F4
    have hQl := F4.out.len
    have FrBd := hid F4.out.bd
    obtain ⟨bF, oF, rfl⟩ := rF.pos (by omega)
    have HRb : Hid (bF < w5.heap.size) := by
      rcases rF.cells with h0 | ⟨b', o', e, hc⟩
      · omega
      · cases e; exact World.block_lt_of_cell? w5 _ (hc 0 (by omega))
    have RF := hid rF
    have RB := hid rB
    clear f4 rF rB
    go_wp2_with (first
      | (at_builtin; refine wpList_append_own _ rfl (.tmp 45) (.tmp 46) 22 rfl w5.heap.size 5 i0 (.int .u8 0) 1 1 Try.underlying22 hi hz0 hz1 hz2 rfl (by decide) (.slice (some ⟨w5.heap.size, 0, none⟩) 0 0) 0 [] ?g0 (World.ownsRow_lit w5 #[] 0 (Nat.le_refl _) (Nat.zero_le _) rfl) ⟨w3.heap.size, 0, none⟩ k 5 (bys Fr) ?g1 ?g2 (F4.out.below ((Below.refl _ _).alloc (Nat.le_refl _) _) (Nat.le_refl _)).news (bys_one _) ?g4 ?g5 ?g6 ?_))
    case g0 => rfl
    case g1 => rfl
    case g2 => rw [bys_length, hQl, Nat.mul_one]
    case g4 => unfold maxLen; omega
    case g5 => omega
    case g6 => simp
    intro v6 w6 o6 g6 _
    have b6 : Below w5.heap.size w5 w6 := ((Below.refl _ _).alloc (Nat.le_refl _) _).grown g6 (by simp) (fun k hk => by simp [Value.ownBlock] at hk; omega)
    have RF6 := hid (RF.out.below b6 (Nat.le_refl _))
    have B56 := hid b6
    have B6 := b4.trans (b6.mono b4.size)
    have Z6 := b6.size
    clear g6 b6 F4 h4
    go_wp2_with (first
      | (at_builtin; refine wpList_append_own _ rfl (.tmp 47) (.tmp 48) 22 rfl w5.heap.size 5 i0 (.int .u8 0) 1 1 Try.underlying22 hi hz0 hz1 hz2 rfl (by decide) _ _ _ rfl o6 ⟨bF, oF, none⟩ (m + 7) capF (bys F) rfl ?k2 RF6.out.news (bys_one _) ?k4 ?k5 ?k6 ?_))
    case k2 => rw [bys_length, hFl, Nat.mul_one]
    case k4 => unfold maxLen; omega
    case k5 => omega
    case k6 => exact Z6
    intro v7 w7 o7 g7 _
    have b7 : Below w5.heap.size w6 w7 := (Below.refl _ _).grown g7 Z6 (fun k hk => (o6.lt k hk).1)
    have b57 : Below w5.heap.size w5 w7 := B56.out.trans b7
    have B7 := b4.trans (b57.mono b4.size)
    have RF := hid (RF.out.below b57 (Nat.le_refl _))
    have RB := hid (RB.out.below b57 (Nat.le_refl _))
    rw [← bys_append] at o7
    obtain ⟨ad7, cap7, rfl, r7, d7⟩ := Reads.own o7 (bd_app FrBd.out hFb)
    have hcap7 := (own_nil o7).2
    obtain ⟨b8, off8, rfl⟩ := r7.pos (by omega)
    have hW := PP.out.well Fr (by omega)
    rw [hQl] at hW
    have HW := hid hW
    clear g7 b7 o6 o7 RF6 B56 B6 Z6 b57 b4 hW
    go_wp2_with fail
    refine (impl_FrameAt cap7 r7 (by omega) hcap7 (k : Int) (by omega) (by omega)).mono ?_
    rintro e w8 ⟨v8, rfl, o8, b8'⟩
    rw [HW.out] at o8
    rw [HW.out]
    replace o8 : w8.ownsRow w7.heap.size 5 1 v8 L.length (bys L) := o8
    rw [HM.out] at o8
    obtain ⟨ad9, cap9, rfl, r9, _⟩ := Reads.own o8 hLb
    have RF := hid (RF.out.below b8' (Nat.le_refl _))
    have rB := RB.out.below b8' (Nat.le_refl _)
    have r8 := r7.below b8' (Nat.le_refl _)
    have B8 := B7.trans (b8'.mono B7.size)
    have hc1 := conv_reads r9 cap9
    have hc2 := conv_reads rB capB
    have h8 := h.below B8 (Nat.le_refl _)
    have e1 : (k : Int) + 7 + (m : Int) = (((k + (m + 7) : Nat)) : Int) := by omega
    clear o8 b8' r7 B7 RB
    go_wp2_with fail
    refine (at_any cap h8 (by omega) 2 (by omega) (by omega)).mono ?_
    rintro e w9 ⟨y2, rfl, hy20, hy21, rfl⟩
    obtain ⟨d, hd⟩ := Int.eq_ofNat_of_zero_le (show 0 ≤ y2 % 7 by omega)
    have hd6 : d ≤ 6 := by omega
    clear hc1 hc2 r9 rB e1
    obtain ⟨l, hl⟩ : ∃ l : Nat, (k : Int) + ((m : Int) + 7) - 1 - (d : Int) = (l : Int) := ⟨k + m + 6 - d, by omega⟩
    have hl1 : k + m ≤ l := by omega
    have hl2 : l < k + m + 7 := by omega
    have hl3 : l ≤ k + (m + 7) := by omega
    have hC := PP.out.cut Fr (by omega) l (by omega) (by omega)
    rw [hQl] at hC
    have HC := hid hC
    have rC := r8.cut3 l hl3
    clear hC HW
    go_wp2_with fail
    refine (impl_FrameAt cap7 rC (by omega) (by omega) (k : Int) (by omega) (by omega)).mono ?_
    rintro e w10 ⟨v10, rfl, o10, b10⟩
    rw [HC.out]
    have RF := hid (RF.out.below b10 (Nat.le_refl _))
    have B10 := B8.trans (b10.mono B8.size)
    have h10 := h.below B10 (Nat.le_refl _)
    generalize faOf ((Fr ++ F).take l) (k : Int) = FF at *
    obtain ⟨_, _, rfl, _, _⟩ : ∃ ad' cap', v10 = .slice ad' FF.b.length cap' ∧ True ∧ True := by
      rcases o10.2 with ⟨e, e0⟩ | ⟨g', cap', _, e, _⟩
      · exact ⟨none, 0, by rw [e, e0], trivial, trivial⟩
      · exact ⟨_, cap', e, trivial, trivial⟩
    clear o10 b10 r8 rC HC h8 B8 hl hd
    go_wp2_with fail
    refine (at_any cap h10 (by omega) 3 (by omega) (by omega)).mono ?_
    rintro e w11 ⟨y3, rfl, hy30, hy31, rfl⟩
    go_wp2_with fail
    refine (at_any cap h10 (by omega) 4 (by omega) (by omega)).mono ?_
    rintro e w12 ⟨y4, rfl, hy40, hy41, rfl⟩
    have hp0 := Int.emod_nonneg (y3 * 256 + y4) (show (m : Int) + 7 ≠ 0 by omega)
    have hp1 := Int.emod_lt_of_pos (y3 * 256 + y4) (show 0 < (m : Int) + 7 by omega)
    obtain ⟨i, hie⟩ := Int.eq_ofNat_of_zero_le hp0
    rw [hie] at hp1
    have hi7 : i < m + 7 := by omega
    clear hp0 hp1
    by_cases i1 : i = 1
    · have i1' : ((i : Int) == 1) = true := beq_iff_eq.2 (by omega)
      clear i1
      go_wp2_with fail
      go_ret
      exact ⟨rfl, B10⟩
    have i1' : ((i : Int) == 1) = false := beq_eq_false_iff_ne.2 (by omega)
    by_cases i2 : i = 2
    · have i2' : ((i : Int) == 2) = true := beq_iff_eq.2 (by omega)
      clear i2
      go_wp2_with fail
      go_ret
      exact ⟨rfl, B10⟩
    have i2' : ((i : Int) == 2) = false := beq_eq_false_iff_ne.2 (by omega)
    go_wp2_with (first
      | (at_builtin; refine wpList_append_own _ rfl (.tmp 122) (.tmp 123) 22 rfl w12.heap.size 5 i0 (.int .u8 0) 1 1 Try.underlying22 hi hz0 hz1 hz2 rfl (by decide) (.slice (some ⟨w12.heap.size, 0, none⟩) 0 0) 0 [] ?n0 (World.ownsRow_lit w12 #[] 0 (Nat.le_refl _) (Nat.zero_le _) rfl) ⟨bF, oF, none⟩ (m + 7) capF (bys F) ?n1 ?n2 (RF.out.below ((Below.refl _ _).alloc (Nat.le_refl _) _) (Nat.le_refl _)).news (bys_one _) ?n4 ?n5 ?n6 ?_))
    case n0 => rfl
    case n1 => rfl
    case n2 => rw [bys_length, hFl, Nat.mul_one]
    case n4 => unfold maxLen; omega
    case n5 => omega
    case n6 => simp
    intro v13 w13 o13 g13 _
    have b13 : Below w12.heap.size w12 w13 := ((Below.refl _ _).alloc (Nat.le_refl _) _).grown g13 (by simp) (fun k hk => by simp [Value.ownBlock] at hk; omega)
    have B13 := B10.trans (b13.mono B10.size)
    obtain ⟨gH, capH, rfl, hgH, hcH⟩ : ∃ gH capH, v13 = .slice (some ⟨gH, 0, none⟩) (m + 7) capH ∧ w12.heap.size ≤ gH ∧ m + 7 ≤ capH := by
      rcases o13.2 with ⟨_, e0⟩ | ⟨g', cap', _, e, hg', _, hc', _⟩
      · omega
      · exact ⟨g', cap', e, hg', hc'⟩
    have hzH : w.heap.size ≤ gH := Nat.le_trans B10.size hgH
    have hcell : w13.cell? ⟨gH, i, none⟩ = some (.int .u8 (F.getD i 0)) := by
      rw [o13.cellAt i (by omega)]
      simp [bys, show i < F.length by omega]
    have hfr : w13.frozen? ⟨gH, i, none⟩ = false := o13.frozenAt i
    have hx := hFb i
    have HX : Hid (F.getD i 0 = F.getD i 0) := rfl
    have HS := hid (fun c => o13.stored i (.int .u8 c))
    have HH := hid (fun c h1 h2 h3 => PP.out.hurt i hi7 (by omega) (by omega) c h1 h2 h3)
    generalize F.getD i 0 = x at hcell hx HH
    have H13 := hid (Still.reads (Still.drew w13) (h.below B13 (Nat.le_refl _)))
    have ii0 : (0 : Int) ≤ (i : Int) := by omega
    have ii7 : (i : Int) < (m : Int) + 7 := by omega
    have ii8 : (i : Int) < ((m + 7 : Nat) : Int) := by omega
    clear g13 o13 RF hie h10 HX b13
    go_wp2_with fail
    go_region_with (go_at_call 9; refine (at_any cap H13.out (by omega) 5 (by omega) (by omega)).mono ?_; rintro e w14 ⟨y5, rfl, hy50, hy51, rfl⟩)
    all_goals
      go_wp2_with fail
      have hR := (HS.out ((x + 1 + y5 % 255) % 256)).1
      have hB : Below w.heap.size w (w13.setCell ⟨gH, i, none⟩ (.int .u8 ((x + 1 + y5 % 255) % 256))) := B13.setCell hzH _
      rw [bys_set] at hR
      have hH := HH.out ((x + 1 + y5 % 255) % 256) (by omega) (by omega) (by omega)
      have hbS := bd_set hFb i ((x + 1 + y5 % 255) % 256) (by omega) (by omega)
      obtain ⟨_, _, e1, rS, _⟩ := Reads.own hR hbS
      obtain ⟨rfl, _, rfl⟩ := Value.slice.inj e1
      clear e1 hR HS HH H13 hcell hfr B13
      generalize F.set i ((x + 1 + y5 % 255) % 256) = Z at *
      generalize w13.setCell ⟨gH, i, none⟩ (.int .u8 ((x + 1 + y5 % 255) % 256)) = w15 at *
      refine (impl_FrameAt capH ((Still.drew w15).reads rS) (by omega) hcH 0 (by omega) (by omega)).mono ?_
      rintro e w16 ⟨v16, rfl, o16, b16⟩
      have B16 := (hB.trans ((Still.drew w15).below _)).trans (b16.mono hB.size)
      generalize faOf Z 0 = GG at *
      obtain ⟨_, _, rfl, _, _⟩ : ∃ ad' cap', v16 = .slice ad' GG.b.length cap' ∧ True ∧ True := by
        rcases o16.2 with ⟨e, e0⟩ | ⟨g', cap', _, e, _⟩
        · exact ⟨none, 0, by rw [e, e0], trivial, trivial⟩
        · exact ⟨_, cap', e, trivial, trivial⟩
      have hq : (GG.c != 0) = true := by simpa using hH
      clear o16 b16 hH hB
      go_wp2_with fail
      go_ret
      exact ⟨rfl, B16⟩
  · rw [frameOf_no kind L hk] at rF
    rw [frameOf_no kind L hk]
    go_wp2_with fail
    go_ret
    exact ⟨rfl, B3⟩
end Go.Proofs.Ytgkhioomckkinaa
