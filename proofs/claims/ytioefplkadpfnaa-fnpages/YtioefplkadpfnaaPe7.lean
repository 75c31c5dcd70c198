/- The contract of the draw that spoils a page. For codes of at most 2^21 bytes. -/
import Derived.Test.YtioefplkadpfnaaPe6
import Derived.Deep.LoopGhost
namespace Go.Proofs.Ytioefplkadpfnaa
open Go.RowKit
set_option maxRecDepth 100000

/-- What the draw answers: a page whose slots lie in new memory. -/
structure AnsB2 (w E : World) (g : Nat) (ad : Option Addr) (nn cap : Nat) (zs : List Int) (e : Ending) (w' : World) : Prop where
  ex : ∃ L a k c ss, e = .returned (.agg #[.int .i64 L, .slice a k c]) ∧ OwnP w' w.heap.size w'.heap.size (.slice a k c) ss ∧ ss.length = k ∧ Sm2 ss ∧ Cur w' g ad nn cap zs ∧ w.grownBy w' (some g) ∧ ∀ (q : Nat) (cs : Array Value), E.heap[q]? = some (.cells cs 26 (0, 0)) → w'.heap[q]? = some (.cells cs 26 (0, 0))
theorem bent_fin {w wr E : World} {pb rb g : Nat} {ad : Option Addr} {nn cap : Nat} {zs : List Int} {L : Int} {a : Option Addr} {k c : Nat} {xs : List Value} {ss : List (List Int)} (h : PbS w wr E pb rb g ad nn cap zs L a k c xs ss) (sm : Sm2 ss) (hp : E.heap.size ≤ pb) (hr : E.heap.size ≤ rb) :
    AnsB2 w E g ad nn cap zs (.returned (.agg #[.int .i64 L, .slice a k c])) ((wr.setCell ⟨rb, 0, none⟩ (.int .i64 L)).setCell ⟨rb, 1, none⟩ (.slice a k c)) := by
  have h2 := h.rbl
  have hl := h.gl
  have gg := grown_trans (grown_set7 wr rb 0 (.int .i64 L)) (grown_set7 (wr.setCell ⟨rb, 0, none⟩ (.int .i64 L)) rb 1 (.slice a k c))
  exact ⟨L, a, k, c, ss, rfl, (h.liv.ownP.beside h.res (by decide) (by decide) gg).mono (Nat.le_refl _) gg.size, h.len, sm, h.cur.other gg (fun r e => by cases e; omega), grown_new h.gr gg (fun r e => by cases e; exact h2), fun q cs hq => by
    have hlt := (Array.getElem?_eq_some_iff.1 hq).1
    have k := h.keep q cs hq (by omega) (by omega)
    exact (gg.block q (Array.getElem?_eq_some_iff.1 k).1 (by simp; omega)).trans k⟩
theorem PbS.one {w wr X E : World} {pb rb g : Nat} {ad : Option Addr} {nn cap : Nat} {zs : List Int} {L : Int} {a : Option Addr} {k c : Nat} {xs : List Value} {ss : List (List Int)} (h : PbS w wr E pb rb g ad nn cap zs L a k c xs ss) (bX : Below wr.heap.size wr X) {v : Value} {z : List Int} (o : X.ownsRow wr.heap.size 5 1 v z.length (bys z)) (hb : ∀ j, 0 ≤ z.getD j 0 ∧ z.getD j 0 ≤ 255) : Bands X w.heap.size X.heap.size (xs ++ [v]) (ss ++ [z]) :=
  (h.bands.agree (Agree.below bX (Nat.le_refl _))).snoc (by have := h.pbl; have := h.plt; omega) bX.size o hb (Nat.le_refl _)

theorem Bands.pair {w : World} {lo hi : Nat} {v1 v2 : Value} {z1 z2 : List Int} (h1 : w.ownsRow lo 5 1 v1 z1.length (bys z1)) (h2 : w.ownsRow lo 5 1 v2 z2.length (bys z2)) (hb1 : ∀ j, 0 ≤ z1.getD j 0 ∧ z1.getD j 0 ≤ 255) (hb2 : ∀ j, 0 ≤ z2.getD j 0 ∧ z2.getD j 0 ≤ 255) (ha : Apart v1 v2) (hh : w.heap.size ≤ hi) : Bands w lo hi [v1, v2] [z1, z2] := by
  refine ⟨rfl, ?_, ?_, List.pairwise_pair.2 ha, ?_⟩
  · intro i
    match i with
    | 0 => exact h1
    | 1 => exact h2
    | i + 2 => simpa [bys, nilS] using World.ownsRow_nil w lo 5 1
  · intro x hx g hg
    simp at hx
    rcases hx with rfl | rfl
    · exact Nat.lt_of_lt_of_le (h1.lt g hg).2 hh
    · exact Nat.lt_of_lt_of_le (h2.lt g hg).2 hh
  · intro i j
    match i with
    | 0 => exact hb1 j
    | 1 => exact hb2 j
    | i + 2 => simp
theorem two_z (z1 z2 : List Int) (h1 : z1.length ≤ 200) (h2 : z2.length ≤ 200) : ∀ i, (([z1, z2] : List (List Int)).getD i []).length ≤ 200 := fun i => by
  match i with
  | 0 => exact h1
  | 1 => exact h2
  | i + 2 => simp

set_option maxHeartbeats 12800000 in
theorem l7bent {w0 w : World} {g : Nat} {ad : Option Addr} {nn cap : Nat} {zs : List Int} {L : Int} {a : Option Addr} {k c : Nat} {ss : List (List Int)} (hgr : w0.grownBy w (some g)) (hgl : g < w0.heap.size) (own : OwnP w w0.heap.size w.heap.size (.slice a k c) ss) (hl : ss.length = k) (sm : SmP ss) (cu : Cur w g ad nn cap zs) (hn : nn ≤ 2097152) :
    Calls Try.prog 45 #[.pointer (some ⟨g, 0, none⟩), .agg #[.int .i64 L, .slice a k c]] w fun e w' => AnsB2 w0 w g ad nn cap zs e w' := by
  obtain ⟨i0, hi, hz0, hz1, hz2⟩ := info_parts Try.info22
  obtain ⟨xs, o, bb⟩ := own.own
  rw [hl] at o
  have HP := hid (show PbS w0 ((w.alloc (.cells #[.int .i64 L, .slice a k c] 26)).alloc (.cells #[.int .i64 0, .slice none 0 0] 26)) w w.heap.size (w.heap.size + 1) g ad nn cap zs L a k c xs ss from by
    have b2 := two w (.cells #[.int .i64 L, .slice a k c] 26) (.cells #[.int .i64 0, .slice none 0 0] 26)
    exact ⟨((Below.alloc1 (w.alloc (.cells #[.int .i64 L, .slice a k c] 26)) (.cells #[.int .i64 0, .slice none 0 0] 26)).block _ (by simp)).trans (heap_alloc_new w (.cells #[.int .i64 L, .slice a k c] 26)), owns_below b2 (Nat.le_refl _) o, (bb.agree (Agree.below b2 (Nat.le_refl _))).mono (Nat.le_refl _) b2.size, hl, heap_new2 w (.cells #[.int .i64 L, .slice a k c] 26) (.cells #[.int .i64 0, .slice none 0 0] 26), cu.below b2 (Nat.le_refl _), gw_alloc (gw_alloc hgr _) _, hgr.size, by have := hgr.size; omega, by omega, hgl, fun q cs hq _ _ => (b2.block q (Array.getElem?_eq_some_iff.1 hq).1).trans hq⟩)
  have HS := hid sm.two
  have hk16 : k ≤ 16 := by have := sm.n; omega
  have HZ := hid sm.two.z
  clear hgr own sm cu o bb
  go_enter Try.func45, Try.ntmps45
  go_wp2_with fail
  generalize (w.alloc (.cells #[.int .i64 L, .slice a k c] 26)).alloc (.cells #[.int .i64 0, .slice none 0 0] 26) = W at *
  obtain ⟨pb, hpb⟩ : ∃ pb, w.heap.size = pb := ⟨_, rfl⟩
  have HPE := hid (show w.heap.size ≤ pb by omega)
  rw [hpb] at HP
  simp only [hpb]
  clear hpb
  refine (l1Below HP.out.cur hn 14 (by omega) (by omega)).mono ?_
  rintro e w1 ⟨x, rfl, x0, x1, c', gg⟩
  replace HP := hid (HP.out.go c' gg)
  clear c' gg
  by_cases h0 : x = 0
  · subst h0
    go_wp2_with fail
    have bA := Below.alloc1 w1 (.cells #[.int .i64 (-1), .int .i64 1000000, .int .i64 1000001] 3)
    have RQ := hid (heap_alloc_new w1 (.cells #[.int .i64 (-1), .int .i64 1000000, .int .i64 1000001] 3))
    have HLT := hid (show g < w1.heap.size from HP.out.cur.lt)
    replace HP := hid (HP.out.below bA)
    clear bA
    generalize w1.alloc (.cells #[.int .i64 (-1), .int .i64 1000000, .int .i64 1000001] 3) = W1 at *
    refine (l1PickInt HP.out.cur hn RQ.out HLT.out).mono ?_
    rintro e w2 ⟨y, rfl, _, c', gg⟩
    replace HP := hid (HP.out.go c' gg)
    obtain ⟨y0, y1⟩ := HP.out.box
    have f0 : w2.frozen? ⟨pb, 0, none⟩ = false := frozen_of_row _ _ _ _ _ HP.out.row
    clear c' gg RQ HLT
    replace HP := hid (HP.out.lsn y)
    go_upto_region 13 with fail
    clear y0 y1 f0
    generalize w2.setCell ⟨pb, 0, none⟩ (.int .i64 y) = U at *
    obtain ⟨y0, y1⟩ := HP.out.box
    have r0 : U.cell? ⟨pb + 1, 0, none⟩ = some (.int .i64 0) := cell_of_row _ _ 0 _ _ _ HP.out.res
    have r1 : U.cell? ⟨pb + 1, 1, none⟩ = some (.slice none 0 0) := cell_of_row _ _ 1 _ _ _ HP.out.res
    have rf0 : U.frozen? ⟨pb + 1, 0, none⟩ = false := frozen_of_row _ _ _ _ _ HP.out.res
    have rf1 : U.frozen? ⟨pb + 1, 1, none⟩ = false := frozen_of_row _ _ _ _ _ HP.out.res
    have T1 := heap_setCell_same U (pb + 1) 0 _ 26 (.int .i64 y) HP.out.res
    have T2 := hid (heap_setCell_same _ (pb + 1) 1 _ 26 (.slice a k c) T1)
    clear T1
    go_wp2_with fail
    exact bodyPost_ret (results_cell_row Try.results45 _ _ (pb + 1) 26 _ (0, 0) _ rfl T2.out Try.underlying26 rfl size_pg) rfl (bent_fin HP.out HS.out HPE.out (by have := HPE.out; omega))

  have h0' : (x == 0) = false := by simpa using h0
  by_cases h1 : x = 1
  · subst h1
    obtain ⟨y0, y1⟩ := HP.out.box
    have f1 : w1.frozen? ⟨pb, 1, none⟩ = false := frozen_of_row _ _ _ _ _ HP.out.row
    have bX := Below.alloc1 w1 (.cells #[.slice none 0 0] 22)
    go_wp2_with (at_builtin; refine wpList_append_row rfl _ _ 24 rfl w0.heap.size 22 i0 (.slice none 0 0) 1 24 Try.underlying24 hi hz0 hz1 hz2 rfl (by decide) _ k xs rfl (owns_below bX (Nat.le_refl _) HP.out.own) (some ⟨w1.heap.size, 0, none⟩) 1 1 [.slice none 0 0] rfl rfl (.inr ⟨_, rfl, World.news_of_block (heap_alloc_new w1 _)⟩) (fun e => by cases e) (by simp [Value.oneCell']) ?k4 ?k5 ?k6 ?_)
    case k4 => unfold maxLen; omega
    case k5 => omega
    case k6 => have := HP.out.pbl; have := HP.out.plt; have := bX.size; omega
    intro a2 c2 w5 o1 hg
    have e1 := hg.cell (bX.cell (p := ⟨pb, 1, none⟩) HP.out.plt |>.trans y1) (own_nk (HP.out.below bX).own (HP.out.below bX).row (by decide))
    have e2 := (hg.frozen_far ⟨pb, 1, none⟩ (Nat.lt_of_lt_of_le HP.out.plt bX.size) (own_nk (HP.out.below bX).own (HP.out.below bX).row (by decide))).trans ((bX.frozen (p := ⟨pb, 1, none⟩) HP.out.plt).trans f1)
    have HP2 := hid (HP.out.grow bX (HP.out.one bX (z := []) (World.ownsRow_nil _ _ 5 1) (by simp)) o1 hg (by simp [hl]))
    clear bX o1 hg y0 y1 f1 HP
    go_upto_region 13 with fail
    clear e1 e2
    have HP := HP2
    clear HP2
    generalize w5.setCell ⟨pb, 1, none⟩ (.slice a2 (k + 1) c2) = U at *
    obtain ⟨y0, y1⟩ := HP.out.box
    have r0 : U.cell? ⟨pb + 1, 0, none⟩ = some (.int .i64 0) := cell_of_row _ _ 0 _ _ _ HP.out.res
    have r1 : U.cell? ⟨pb + 1, 1, none⟩ = some (.slice none 0 0) := cell_of_row _ _ 1 _ _ _ HP.out.res
    have rf0 : U.frozen? ⟨pb + 1, 0, none⟩ = false := frozen_of_row _ _ _ _ _ HP.out.res
    have rf1 : U.frozen? ⟨pb + 1, 1, none⟩ = false := frozen_of_row _ _ _ _ _ HP.out.res
    have T1 := heap_setCell_same U (pb + 1) 0 _ 26 (.int .i64 L) HP.out.res
    have T2 := hid (heap_setCell_same _ (pb + 1) 1 _ 26 (.slice a2 (k + 1) c2) T1)
    clear T1
    go_wp2_with fail
    exact bodyPost_ret (results_cell_row Try.results45 _ _ (pb + 1) 26 _ (0, 0) _ rfl T2.out Try.underlying26 rfl size_pg) rfl (bent_fin HP.out ⟨by simp [hl]; omega, Sm2.app HZ.out (one_z [] (by simp))⟩ HPE.out (by have := HPE.out; omega))

  have h1' : (x == 1) = false := by simpa using h1
  by_cases h2 : x = 2
  · subst h2
    go_wp2_with fail
    go_loopg [] (18 - k) (fun r wr => ∃ (k' : Nat) (a' : Option Addr) (c' : Nat) (xs' : List Value) (ss' : List (List Int)), k' ≤ 17 ∧ r = 18 - k' ∧ Hid (PbS w0 wr w pb (pb + 1) g ad nn cap zs L a' k' c' xs' ss') ∧ Hid (∀ i, (ss'.getD i []).length ≤ 200))
    case atStart => exact ⟨k, a, c, xs, ss, by omega, rfl, HP, HZ⟩
    case round =>
      clear HP HZ HS
      obtain ⟨k', a', c', xs', ss', hk17, hr, HP, HZ2⟩ := hrel
      go_wp2_with fail
      replace HP := hid (HP.out.below ((Still.drew wr).below _))
      refine region_K 99 (fun X => BoxP X pb L a' k' c') (by kernel_rfl) ?_ (fun hHeld => ?_)
      · exact HP.out.box
      generalize wr.drew = v0 at *
      refine anyK_take2 (i := 0) (v := ?v3516) rfl (by kernel_rfl) (by kernel_rfl) (by kernel_rfl) (by rfl) (fun _ _ _ h => h) (by rfl) hHeld ?hy3516 (some 22) (by rfl) ?rest3516
      case hy3516 => (intro W hSw; obtain ⟨r0, r1⟩ := hSw; go_simp; (try with_reducible rfl))
      try simp only [Act.put]
      try simp only [List.setIfInBounds_toArray]
      try simp only [List.set_cons_succ, List.set_cons_zero]
      refine anyK_take2 (i := 1) (v := ?v3517) rfl (by kernel_rfl) (by kernel_rfl) (by kernel_rfl) (by rfl) (fun _ _ _ h => h) (by rfl) hHeld ?hy3517 (some 23) (by rfl) ?rest3517
      case hy3517 => (intro W hSw; obtain ⟨r0, r1⟩ := hSw; go_simp; (try with_reducible rfl))
      try simp only [Act.put]
      try simp only [List.setIfInBounds_toArray]
      try simp only [List.set_cons_succ, List.set_cons_zero]
      refine anyK_take2 (i := 2) (v := ?v3518) rfl (by kernel_rfl) (by kernel_rfl) (by kernel_rfl) (by rfl) (fun _ _ _ h => h) (by rfl) hHeld ?hy3518 (some 24) (by rfl) ?rest3518
      case hy3518 => (intro W hSw; obtain ⟨r0, r1⟩ := hSw; go_simp; (try with_reducible rfl))
      try simp only [Act.put]
      try simp only [List.setIfInBounds_toArray]
      try simp only [List.set_cons_succ, List.set_cons_zero]
      refine anyK_take2 (i := 3) (v := ?v3519) rfl (by kernel_rfl) (by kernel_rfl) (by kernel_rfl) (by rfl) (fun _ _ _ h => h) (by rfl) hHeld ?hy3519 (some 25) (by rfl) ?rest3519
      case hy3519 => (intro W hSw; obtain ⟨r0, r1⟩ := hSw; go_simp; (try with_reducible rfl))
      try simp only [Act.put]
      try simp only [List.setIfInBounds_toArray]
      try simp only [List.set_cons_succ, List.set_cons_zero]
      refine anyK_step (i := 4) (by kernel_rfl) rfl (fun KP hK => ?_)
      go_simp
      refine (l1Below HP.out.cur hn 2 (by omega) (by omega)).mono ?_
      rintro e v1 ⟨x2, rfl, x20, x21, c', gg⟩
      replace HP := hid (HP.out.go c' gg)
      clear c' gg
      go_wp2_with fail
      refine hK.out _ _ ?_ (fun hH2 => ?_)
      · exact HP.out.box
      clear hK KP hHeld
      have hHeld := hH2
      clear hH2
      try simp only [Act.put]
      try simp only [List.setIfInBounds_toArray]
      try simp only [List.set_cons_succ, List.set_cons_zero]
      have lw : IntKind.i64.wrap (16 + x2) = 16 + x2 := by simp [IntKind.wrap, IntKind.bits, IntKind.signed]; omega
      by_cases hlt : (k' : Int) < 16 + x2
      · refine anyK_take2 (i := 5) (v := ?v3520) rfl (by kernel_rfl) (by kernel_rfl) (by kernel_rfl) (by rfl) (fun _ _ _ h => h) (by rfl) hHeld ?hy3520 (some 27) (by rfl) ?rest3520
        case hy3520 => (intro W hSw; obtain ⟨r0, r1⟩ := hSw; go_simp; (try with_reducible rfl))
        try simp only [Act.put]
        try simp only [List.setIfInBounds_toArray]
        try simp only [List.set_cons_succ, List.set_cons_zero]
        refine anyK_take2 (i := 6) (v := ?v3521) rfl (by kernel_rfl) (by kernel_rfl) (by kernel_rfl) (by rfl) (fun _ _ _ h => h) (by rfl) hHeld ?hy3521 (some 28) (by rfl) ?rest3521
        case hy3521 => (intro W hSw; obtain ⟨r0, r1⟩ := hSw; go_simp; (try with_reducible rfl))
        try simp only [Act.put]
        try simp only [List.setIfInBounds_toArray]
        try simp only [List.set_cons_succ, List.set_cons_zero]
        refine anyK_done (by kernel_rfl) ?_ _
        clear hHeld lw
        obtain ⟨y0, y1⟩ := HP.out.box
        have f1 : v1.frozen? ⟨pb, 1, none⟩ = false := frozen_of_row _ _ _ _ _ HP.out.row
        have bX := two v1 (.cells #[.int .u8 7] 5) (.cells #[.slice (some ⟨v1.heap.size, 0, none⟩) 1 1] 22)
        have BN := HP.out.one bX (v := .slice (some ⟨v1.heap.size, 0, none⟩) 1 1) (z := [7]) (owns_below (Below.alloc1 (v1.alloc (.cells #[.int .u8 7] 5)) (.cells #[.slice (some ⟨v1.heap.size, 0, none⟩) 1 1] 22)) (Nat.le_refl _) (lit_row (w := v1) 7)) (fun j => by match j with | 0 => simp | j + 1 => simp)
        have HRW := hid (heap_alloc_new (v1.alloc (.cells #[.int .u8 7] 5)) (.cells #[.slice (some ⟨v1.heap.size, 0, none⟩) 1 1] 22))
        have HBN := hid BN
        have HbX := hid bX
        clear bX BN
        go_wp2_with (at_builtin; refine wpList_append_row rfl _ _ 24 rfl w0.heap.size 22 i0 (.slice none 0 0) 1 24 Try.underlying24 hi hz0 hz1 hz2 rfl (by decide) _ k' xs' rfl (owns_below HbX.out (Nat.le_refl _) HP.out.own) (some ⟨v1.heap.size + 1, 0, none⟩) 1 1 [.slice (some ⟨v1.heap.size, 0, none⟩) 1 1] rfl rfl (.inr ⟨_, rfl, World.news_of_block (by simpa using HRW.out)⟩) (fun e => by cases e) (by simp [Value.oneCell']) ?k4 ?k5 ?k6 ?_)
        case k4 => unfold maxLen; omega
        case k5 => omega
        case k6 => have := HP.out.pbl; have := HP.out.plt; have := HbX.out.size; omega
        intro a2 c2 w5 o1 hg
        have HPX := hid (HP.out.below HbX.out)
        have e1 := hg.cell HPX.out.box.2 (own_nk HPX.out.own HPX.out.row (by decide))
        have e2 := (hg.frozen_far ⟨pb, 1, none⟩ HPX.out.plt (own_nk HPX.out.own HPX.out.row (by decide))).trans (frozen_of_row _ _ _ _ _ HPX.out.row)
        have HP2 := hid (HP.out.grow HbX.out HBN.out o1 hg (by simp [HP.out.len]))
        clear o1 hg y0 y1 f1 HP HPX HBN HbX HRW
        go_wp2_with fail
        clear e1 e2
        go_roundg (18 - (k' + 1))
        case measure => omega
        case rel => exact ⟨k' + 1, a2, c2, _, _, by omega, rfl, HP2, hid (Sm2.app HZ2.out (one_z [7] (by simp)))⟩
      · refine anyK_take2 (i := 5) (v := ?v3522) rfl (by kernel_rfl) (by kernel_rfl) (by kernel_rfl) (by rfl) (fun _ _ _ h => h) (by rfl) hHeld ?hy3522 (some 27) (by rfl) ?rest3522
        case hy3522 => (intro W hSw; obtain ⟨r0, r1⟩ := hSw; go_simp; (try with_reducible rfl))
        try simp only [Act.put]
        try simp only [List.setIfInBounds_toArray]
        try simp only [List.set_cons_succ, List.set_cons_zero]
        refine anyK_take2 (i := 6) (v := ?v3523) rfl (by kernel_rfl) (by kernel_rfl) (by kernel_rfl) (by rfl) (fun _ _ _ h => h) (by rfl) hHeld ?hy3523 (some 28) (by rfl) ?rest3523
        case hy3523 => (intro W hSw; obtain ⟨r0, r1⟩ := hSw; go_simp; (try with_reducible rfl))
        try simp only [Act.put]
        try simp only [List.setIfInBounds_toArray]
        try simp only [List.set_cons_succ, List.set_cons_zero]
        refine anyK_done (by kernel_rfl) ?_ _
        clear hHeld lw
        have HS2 := hid (show Sm2 ss' from ⟨by have := HP.out.len; omega, HZ2.out⟩)
        obtain ⟨y0, y1⟩ := HP.out.box
        have r0 : v1.cell? ⟨pb + 1, 0, none⟩ = some (.int .i64 0) := cell_of_row _ _ 0 _ _ _ HP.out.res
        have r1 : v1.cell? ⟨pb + 1, 1, none⟩ = some (.slice none 0 0) := cell_of_row _ _ 1 _ _ _ HP.out.res
        have rf0 : v1.frozen? ⟨pb + 1, 0, none⟩ = false := frozen_of_row _ _ _ _ _ HP.out.res
        have rf1 : v1.frozen? ⟨pb + 1, 1, none⟩ = false := frozen_of_row _ _ _ _ _ HP.out.res
        have T1 := heap_setCell_same v1 (pb + 1) 0 _ 26 (.int .i64 L) HP.out.res
        have T2 := hid (heap_setCell_same _ (pb + 1) 1 _ 26 (.slice a' k' c') T1)
        clear T1
        go_wp2_with fail
        exact bodyPost_ret (results_cell_row Try.results45 _ _ (pb + 1) 26 _ (0, 0) _ rfl T2.out Try.underlying26 rfl size_pg) rfl (bent_fin HP.out HS2.out HPE.out (by have := HPE.out; omega))
  have h2' : (x == 2) = false := by simpa using h2
  by_cases h3 : x = 3
  · subst h3
    go_wp2_with fail
    replace HP := hid (HP.out.below ((Still.drew w1).below _))
    refine region_K 9 (fun X => BoxP X pb L a k c) (by kernel_rfl) ?_ (fun hHeld => ?_)
    · exact HP.out.box
    generalize w1.drew = v0 at *
    refine anyK_take (i := 0) (v := ?v3507) rfl (by kernel_rfl) (by kernel_rfl) (by kernel_rfl) (by kernel_rfl) (fun _ _ _ h => h) (by rfl) hHeld ?hy3507 (some 37) (by rfl) ?rest3507
    case hy3507 => (intro W hSw; obtain ⟨r0, r1⟩ := hSw; go_simp; (try with_reducible rfl))
    try simp only [Act.put]
    try simp only [List.setIfInBounds_toArray]
    try simp only [List.set_cons_succ, List.set_cons_zero]
    refine anyK_take (i := 1) (v := ?v3508) rfl (by kernel_rfl) (by kernel_rfl) (by kernel_rfl) (by kernel_rfl) (fun _ _ _ h => h) (by rfl) hHeld ?hy3508 (some 38) (by rfl) ?rest3508
    case hy3508 => (intro W hSw; obtain ⟨r0, r1⟩ := hSw; go_simp; (try with_reducible rfl))
    try simp only [Act.put]
    try simp only [List.setIfInBounds_toArray]
    try simp only [List.set_cons_succ, List.set_cons_zero]
    refine anyK_take (i := 2) (v := ?v3509) rfl (by kernel_rfl) (by kernel_rfl) (by kernel_rfl) (by kernel_rfl) (fun _ _ _ h => h) (by rfl) hHeld ?hy3509 (some 39) (by rfl) ?rest3509
    case hy3509 => (intro W hSw; obtain ⟨r0, r1⟩ := hSw; go_simp; (try with_reducible rfl))
    try simp only [Act.put]
    try simp only [List.setIfInBounds_toArray]
    try simp only [List.set_cons_succ, List.set_cons_zero]
    refine anyK_step (i := 3) (by kernel_rfl) rfl (fun KP hK => ?_)
    go_simp
    refine (l1Below HP.out.cur hn 2 (by omega) (by omega)).mono ?_
    rintro e v1 ⟨x2, rfl, x20, x21, c', gg⟩
    replace HP := hid (HP.out.go c' gg)
    clear c' gg
    go_wp2_with fail
    refine hK.out _ _ ?_ (fun hH2 => ?_)
    · exact HP.out.box
    clear hK KP hHeld
    have hHeld := hH2
    clear hH2
    try simp only [Act.put]
    try simp only [List.setIfInBounds_toArray]
    try simp only [List.set_cons_succ, List.set_cons_zero]
    rcases (show x2 = 0 ∨ x2 = 1 by omega) with rfl | rfl
    · have lw : IntKind.i64.wrap 92 = 92 := by decide
      refine anyK_take (i := 4) (v := ?v3510) rfl (by kernel_rfl) (by kernel_rfl) (by kernel_rfl) (by kernel_rfl) (fun _ _ _ h => h) (by rfl) hHeld ?hy3510 (some 41) (by rfl) ?rest3510
      case hy3510 => (intro W hSw; obtain ⟨r0, r1⟩ := hSw; go_simp; (try with_reducible rfl))
      try simp only [Act.put]
      try simp only [List.setIfInBounds_toArray]
      try simp only [List.set_cons_succ, List.set_cons_zero]
      refine anyK_step (i := 5) (by kernel_rfl) rfl (fun KP hK => ?_)
      have hm := mkZ 92 (by omega) (by omega) v1
      go_simp
      clear hm
      clear lw
      have b2 := hid (Below.alloc1 v1 (.cells (madeCells #[.int .u8 0] 92) 5))
      refine hK.out _ _ ?_ (fun hH2 => ?_)
      · exact (HP.out.below b2.out).box
      clear hK KP hHeld
      have hHeld := hH2
      clear hH2
      try simp only [Act.put]
      try simp only [List.setIfInBounds_toArray]
      try simp only [List.set_cons_succ, List.set_cons_zero]
      have BN := hid (HP.out.one b2.out (v := .slice (some ⟨v1.heap.size, 0, none⟩) 92 92) (z := List.replicate 92 0) (ownZ 92 (by omega) v1) (rep_bd 92))
      generalize v1.alloc (.cells (madeCells #[.int .u8 0] 92) 5) = X2 at *
      refine anyK_step (i := 6) (by kernel_rfl) rfl (fun KP hK => ?_)
      go_simp
      have bR := Below.alloc1 X2 (.cells #[.slice (some ⟨v1.heap.size, 0, none⟩) 92 92] 22)
      have BX := hid (b2.out.trans (bR.mono b2.out.size))
      have HPX := hid (HP.out.below BX.out)
      have BNX := hid ((BN.out.agree (Agree.below bR (Nat.le_refl _))).mono (Nat.le_refl _) bR.size)
      clear bR BN
      refine hK.out _ _ ?_ (fun hH2 => ?_)
      · exact HPX.out.box
      clear hK KP hHeld
      have hHeld := hH2
      clear hH2
      try simp only [Act.put]
      try simp only [List.setIfInBounds_toArray]
      try simp only [List.set_cons_succ, List.set_cons_zero]
      refine anyK_step (i := 7) (by kernel_rfl) rfl (fun KP hK => ?_)
      refine step_append_row (by rfl) _ _ _ (by rfl) w0.heap.size 22 i0 (.slice none 0 0) 1 24 Try.underlying24 hi hz0 hz1 hz2 rfl (by omega) (.slice a k c) k xs (by rfl) HPX.out.own (some ⟨X2.heap.size, 0, none⟩) 1 1 [.slice (some ⟨v1.heap.size, 0, none⟩) 92 92] (by rfl) rfl (.inr ⟨_, rfl, World.news_of_block (heap_alloc_new X2 _)⟩) (fun e => by cases e) (by simp [Value.oneCell']) (by unfold maxLen; omega) (by omega) (by have := HPX.out.pbl; have := HPX.out.plt; omega) ?_
      intro a2 c2 w5 o1 hg
      have e1 := hg.cell HPX.out.box.2 (own_nk HPX.out.own HPX.out.row (by decide))
      have e0 := hg.cell HPX.out.box.1 (own_nk HPX.out.own HPX.out.row (by decide))
      have e2 := (hg.frozen_far ⟨pb, 1, none⟩ HPX.out.plt (own_nk HPX.out.own HPX.out.row (by decide))).trans (frozen_of_row _ _ _ _ _ HPX.out.row)
      have HP2 := hid (HP.out.grow BX.out BNX.out o1 hg (by simp [hl]))
      refine hK.out _ _ ?_ (fun hH2 => ?_)
      · exact ⟨e0, e1⟩
      clear hK KP hHeld
      have hHeld := hH2
      clear hH2
      try simp only [Act.put]
      try simp only [List.setIfInBounds_toArray]
      try simp only [List.set_cons_succ, List.set_cons_zero]
      refine anyK_take (i := 8) (v := ?v3512) rfl (by kernel_rfl) (by kernel_rfl) (by kernel_rfl) (by kernel_rfl) (fun _ _ _ h => h) (by rfl) hHeld ?hy3512 (some 45) (by rfl) ?rest3512
      case hy3512 => (intro W hSw; obtain ⟨r0, r1⟩ := hSw; go_simp; (try with_reducible rfl))
      try simp only [Act.put]
      try simp only [List.setIfInBounds_toArray]
      try simp only [List.set_cons_succ, List.set_cons_zero]
      refine anyK_last (by kernel_rfl) rfl (fun KP hK => ?_)
      go_simp
      refine hK.out _ _ ?_
      clear hK KP
      refine anyK_done (by kernel_rfl) ?_ _
      clear hHeld
      clear BX HPX BNX o1 hg HP
      go_upto_region 13 with fail
      clear e0 e1 e2
      have HP := HP2
      clear HP2
      generalize w5.setCell ⟨pb, 1, none⟩ (.slice a2 (k + 1) c2) = U at *
      obtain ⟨y0, y1⟩ := HP.out.box
      have r0 : U.cell? ⟨pb + 1, 0, none⟩ = some (.int .i64 0) := cell_of_row _ _ 0 _ _ _ HP.out.res
      have r1 : U.cell? ⟨pb + 1, 1, none⟩ = some (.slice none 0 0) := cell_of_row _ _ 1 _ _ _ HP.out.res
      have rf0 : U.frozen? ⟨pb + 1, 0, none⟩ = false := frozen_of_row _ _ _ _ _ HP.out.res
      have rf1 : U.frozen? ⟨pb + 1, 1, none⟩ = false := frozen_of_row _ _ _ _ _ HP.out.res
      have T1 := heap_setCell_same U (pb + 1) 0 _ 26 (.int .i64 L) HP.out.res
      have T2 := hid (heap_setCell_same _ (pb + 1) 1 _ 26 (.slice a2 (k + 1) c2) T1)
      clear T1
      go_wp2_with fail
      exact bodyPost_ret (results_cell_row Try.results45 _ _ (pb + 1) 26 _ (0, 0) _ rfl T2.out Try.underlying26 rfl size_pg) rfl (bent_fin HP.out ⟨by simp [hl]; omega, Sm2.app HZ.out (one_z _ (by simp))⟩ HPE.out (by have := HPE.out; omega))
    · have lw : IntKind.i64.wrap 93 = 93 := by decide
      refine anyK_take (i := 4) (v := ?v3513) rfl (by kernel_rfl) (by kernel_rfl) (by kernel_rfl) (by kernel_rfl) (fun _ _ _ h => h) (by rfl) hHeld ?hy3513 (some 41) (by rfl) ?rest3513
      case hy3513 => (intro W hSw; obtain ⟨r0, r1⟩ := hSw; go_simp; (try with_reducible rfl))
      try simp only [Act.put]
      try simp only [List.setIfInBounds_toArray]
      try simp only [List.set_cons_succ, List.set_cons_zero]
      refine anyK_step (i := 5) (by kernel_rfl) rfl (fun KP hK => ?_)
      have hm := mkZ 93 (by omega) (by omega) v1
      go_simp
      clear hm
      clear lw
      have b2 := hid (Below.alloc1 v1 (.cells (madeCells #[.int .u8 0] 93) 5))
      refine hK.out _ _ ?_ (fun hH2 => ?_)
      · exact (HP.out.below b2.out).box
      clear hK KP hHeld
      have hHeld := hH2
      clear hH2
      try simp only [Act.put]
      try simp only [List.setIfInBounds_toArray]
      try simp only [List.set_cons_succ, List.set_cons_zero]
      have BN := hid (HP.out.one b2.out (v := .slice (some ⟨v1.heap.size, 0, none⟩) 93 93) (z := List.replicate 93 0) (ownZ 93 (by omega) v1) (rep_bd 93))
      generalize v1.alloc (.cells (madeCells #[.int .u8 0] 93) 5) = X2 at *
      refine anyK_step (i := 6) (by kernel_rfl) rfl (fun KP hK => ?_)
      go_simp
      have bR := Below.alloc1 X2 (.cells #[.slice (some ⟨v1.heap.size, 0, none⟩) 93 93] 22)
      have BX := hid (b2.out.trans (bR.mono b2.out.size))
      have HPX := hid (HP.out.below BX.out)
      have BNX := hid ((BN.out.agree (Agree.below bR (Nat.le_refl _))).mono (Nat.le_refl _) bR.size)
      clear bR BN
      refine hK.out _ _ ?_ (fun hH2 => ?_)
      · exact HPX.out.box
      clear hK KP hHeld
      have hHeld := hH2
      clear hH2
      try simp only [Act.put]
      try simp only [List.setIfInBounds_toArray]
      try simp only [List.set_cons_succ, List.set_cons_zero]
      refine anyK_step (i := 7) (by kernel_rfl) rfl (fun KP hK => ?_)
      refine step_append_row (by rfl) _ _ _ (by rfl) w0.heap.size 22 i0 (.slice none 0 0) 1 24 Try.underlying24 hi hz0 hz1 hz2 rfl (by omega) (.slice a k c) k xs (by rfl) HPX.out.own (some ⟨X2.heap.size, 0, none⟩) 1 1 [.slice (some ⟨v1.heap.size, 0, none⟩) 93 93] (by rfl) rfl (.inr ⟨_, rfl, World.news_of_block (heap_alloc_new X2 _)⟩) (fun e => by cases e) (by simp [Value.oneCell']) (by unfold maxLen; omega) (by omega) (by have := HPX.out.pbl; have := HPX.out.plt; omega) ?_
      intro a2 c2 w5 o1 hg
      have e1 := hg.cell HPX.out.box.2 (own_nk HPX.out.own HPX.out.row (by decide))
      have e0 := hg.cell HPX.out.box.1 (own_nk HPX.out.own HPX.out.row (by decide))
      have e2 := (hg.frozen_far ⟨pb, 1, none⟩ HPX.out.plt (own_nk HPX.out.own HPX.out.row (by decide))).trans (frozen_of_row _ _ _ _ _ HPX.out.row)
      have HP2 := hid (HP.out.grow BX.out BNX.out o1 hg (by simp [hl]))
      refine hK.out _ _ ?_ (fun hH2 => ?_)
      · exact ⟨e0, e1⟩
      clear hK KP hHeld
      have hHeld := hH2
      clear hH2
      try simp only [Act.put]
      try simp only [List.setIfInBounds_toArray]
      try simp only [List.set_cons_succ, List.set_cons_zero]
      refine anyK_take (i := 8) (v := ?v3515) rfl (by kernel_rfl) (by kernel_rfl) (by kernel_rfl) (by kernel_rfl) (fun _ _ _ h => h) (by rfl) hHeld ?hy3515 (some 45) (by rfl) ?rest3515
      case hy3515 => (intro W hSw; obtain ⟨r0, r1⟩ := hSw; go_simp; (try with_reducible rfl))
      try simp only [Act.put]
      try simp only [List.setIfInBounds_toArray]
      try simp only [List.set_cons_succ, List.set_cons_zero]
      refine anyK_last (by kernel_rfl) rfl (fun KP hK => ?_)
      go_simp
      refine hK.out _ _ ?_
      clear hK KP
      refine anyK_done (by kernel_rfl) ?_ _
      clear hHeld
      clear BX HPX BNX o1 hg HP
      go_upto_region 13 with fail
      clear e0 e1 e2
      have HP := HP2
      clear HP2
      generalize w5.setCell ⟨pb, 1, none⟩ (.slice a2 (k + 1) c2) = U at *
      obtain ⟨y0, y1⟩ := HP.out.box
      have r0 : U.cell? ⟨pb + 1, 0, none⟩ = some (.int .i64 0) := cell_of_row _ _ 0 _ _ _ HP.out.res
      have r1 : U.cell? ⟨pb + 1, 1, none⟩ = some (.slice none 0 0) := cell_of_row _ _ 1 _ _ _ HP.out.res
      have rf0 : U.frozen? ⟨pb + 1, 0, none⟩ = false := frozen_of_row _ _ _ _ _ HP.out.res
      have rf1 : U.frozen? ⟨pb + 1, 1, none⟩ = false := frozen_of_row _ _ _ _ _ HP.out.res
      have T1 := heap_setCell_same U (pb + 1) 0 _ 26 (.int .i64 L) HP.out.res
      have T2 := hid (heap_setCell_same _ (pb + 1) 1 _ 26 (.slice a2 (k + 1) c2) T1)
      clear T1
      go_wp2_with fail
      exact bodyPost_ret (results_cell_row Try.results45 _ _ (pb + 1) 26 _ (0, 0) _ rfl T2.out Try.underlying26 rfl size_pg) rfl (bent_fin HP.out ⟨by simp [hl]; omega, Sm2.app HZ.out (one_z _ (by simp))⟩ HPE.out (by have := HPE.out; omega))
  have h3' : (x == 3) = false := by simpa using h3
  by_cases h4 : x = 4
  · subst h4
    go_wp2_with fail
    replace HP := hid (HP.out.below ((Still.drew w1).below _))
    refine region_K 7 (fun X => BoxP X pb L a k c) (by kernel_rfl) ?_ (fun hHeld => ?_)
    · exact HP.out.box
    generalize w1.drew = v0 at *
    refine anyK_take (i := 0) (v := ?v3501) rfl (by kernel_rfl) (by kernel_rfl) (by kernel_rfl) (by kernel_rfl) (fun _ _ _ h => h) (by rfl) hHeld ?hy3501 (some 48) (by rfl) ?rest3501
    case hy3501 => (intro W hSw; obtain ⟨r0, r1⟩ := hSw; go_simp; (try with_reducible rfl))
    try simp only [Act.put]
    try simp only [List.setIfInBounds_toArray]
    try simp only [List.set_cons_succ, List.set_cons_zero]
    refine anyK_take (i := 1) (v := ?v3502) rfl (by kernel_rfl) (by kernel_rfl) (by kernel_rfl) (by kernel_rfl) (fun _ _ _ h => h) (by rfl) hHeld ?hy3502 (some 49) (by rfl) ?rest3502
    case hy3502 => (intro W hSw; obtain ⟨r0, r1⟩ := hSw; go_simp; (try with_reducible rfl))
    try simp only [Act.put]
    try simp only [List.setIfInBounds_toArray]
    try simp only [List.set_cons_succ, List.set_cons_zero]
    refine anyK_two (i := 2) (j := 3) (by kernel_rfl) rfl rfl (fun KP hK => ?_) (fun KP hK => ?_)
    · have hm := mkZ 92 (by omega) (by omega) v0
      go_simp
      clear hm
      refine hK.out _ _ ?_ (fun hH2 => ?_)
      · exact (HP.out.below (Below.alloc1 v0 (.cells (madeCells #[.int .u8 0] 92) 5))).box
      clear hK KP hHeld
      have hHeld := hH2
      clear hH2
      try simp only [Act.put]
      try simp only [List.setIfInBounds_toArray]
      try simp only [List.set_cons_succ, List.set_cons_zero]
      refine anyK_step (i := 3) (by kernel_rfl) rfl (fun KP hK => ?_)
      have hm := mkZ 92 (by omega) (by omega) (v0.alloc (.cells (madeCells #[.int .u8 0] 92) 5))
      go_simp
      clear hm
      have b2 := hid (two v0 (.cells (madeCells #[.int .u8 0] 92) 5) (.cells (madeCells #[.int .u8 0] 92) 5))
      refine hK.out _ _ ?_ (fun hH2 => ?_)
      · exact (HP.out.below b2.out).box
      clear hK KP hHeld
      have hHeld := hH2
      clear hH2
      try simp only [Act.put]
      try simp only [List.setIfInBounds_toArray]
      try simp only [List.set_cons_succ, List.set_cons_zero]
      have OA := hid (owns_below (Below.alloc1 (v0.alloc (.cells (madeCells #[.int .u8 0] 92) 5)) (.cells (madeCells #[.int .u8 0] 92) 5)) (Nat.le_refl _) (ownZ 92 (by omega) v0))
      have OB := hid (show ((v0.alloc (.cells (madeCells #[.int .u8 0] 92) 5)).alloc (.cells (madeCells #[.int .u8 0] 92) 5)).ownsRow v0.heap.size 5 1 (.slice (some ⟨v0.heap.size + 1, 0, none⟩) 92 92) 92 (bys (List.replicate 92 0)) from by have := ownZ 92 (by omega) (v0.alloc (.cells (madeCells #[.int .u8 0] 92) 5)); rw [alloc_size] at this; exact owns_lower this (by omega))
      have ZX := hid (show ((v0.alloc (.cells (madeCells #[.int .u8 0] 92) 5)).alloc (.cells (madeCells #[.int .u8 0] 92) 5)).heap.size = v0.heap.size + 2 by simp)
      generalize (v0.alloc (.cells (madeCells #[.int .u8 0] 92) 5)).alloc (.cells (madeCells #[.int .u8 0] 92) 5) = X2 at *
      have BN := hid (((HP.out.bands.agree (Agree.below b2.out (Nat.le_refl _))).append (Bands.pair (v1 := .slice (some ⟨v0.heap.size, 0, none⟩) 92 92) (v2 := .slice (some ⟨(v0.heap.size + 1), 0, none⟩) 92 92) (z1 := List.replicate 92 0) (z2 := List.replicate 92 0) OA.out OB.out (rep_bd 92) (rep_bd 92) (.inr (fun e => by have := Option.some.inj e; simp at this)) (Nat.le_refl _)) (by have := HP.out.pbl; have := HP.out.plt; omega) b2.out.size))
      refine anyK_step (i := 4) (by kernel_rfl) rfl (fun KP hK => ?_)
      go_simp
      have bR := Below.alloc1 X2 (.cells #[.slice (some ⟨v0.heap.size, 0, none⟩) 92 92, .slice (some ⟨(v0.heap.size + 1), 0, none⟩) 92 92] 22)
      have BX := hid (b2.out.trans (bR.mono b2.out.size))
      have HPX := hid (HP.out.below BX.out)
      have BNX := hid ((BN.out.agree (Agree.below bR (Nat.le_refl _))).mono (Nat.le_refl _) bR.size)
      clear bR BN OA OB
      refine hK.out _ _ ?_ (fun hH2 => ?_)
      · exact HPX.out.box
      clear hK KP hHeld
      have hHeld := hH2
      clear hH2
      try simp only [Act.put]
      try simp only [List.setIfInBounds_toArray]
      try simp only [List.set_cons_succ, List.set_cons_zero]
      refine anyK_step (i := 5) (by kernel_rfl) rfl (fun KP hK => ?_)
      refine step_append_row (by rfl) _ _ _ (by rfl) w0.heap.size 22 i0 (.slice none 0 0) 1 24 Try.underlying24 hi hz0 hz1 hz2 rfl (by omega) (.slice a k c) k xs (by rfl) HPX.out.own (some ⟨X2.heap.size, 0, none⟩) 2 2 [.slice (some ⟨v0.heap.size, 0, none⟩) 92 92, .slice (some ⟨(v0.heap.size + 1), 0, none⟩) 92 92] (by rfl) rfl (.inr ⟨_, rfl, World.news_of_block (heap_alloc_new X2 _)⟩) (fun e => by cases e) (by simp [Value.oneCell']) (by unfold maxLen; omega) (by omega) (by have := HPX.out.pbl; have := HPX.out.plt; omega) ?_
      intro a2 c2 w5 o1 hg
      have e1 := hg.cell HPX.out.box.2 (own_nk HPX.out.own HPX.out.row (by decide))
      have e0 := hg.cell HPX.out.box.1 (own_nk HPX.out.own HPX.out.row (by decide))
      have e2 := (hg.frozen_far ⟨pb, 1, none⟩ HPX.out.plt (own_nk HPX.out.own HPX.out.row (by decide))).trans (frozen_of_row _ _ _ _ _ HPX.out.row)
      have HP2 := hid (HP.out.grow BX.out BNX.out o1 hg (by simp [hl]))
      refine hK.out _ _ ?_ (fun hH2 => ?_)
      · exact ⟨e0, e1⟩
      clear hK KP hHeld
      have hHeld := hH2
      clear hH2
      try simp only [Act.put]
      try simp only [List.setIfInBounds_toArray]
      try simp only [List.set_cons_succ, List.set_cons_zero]
      refine anyK_take (i := 6) (v := ?v3504) rfl (by kernel_rfl) (by kernel_rfl) (by kernel_rfl) (by kernel_rfl) (fun _ _ _ h => h) (by rfl) hHeld ?hy3504 (some 54) (by rfl) ?rest3504
      case hy3504 => (intro W hSw; obtain ⟨r0, r1⟩ := hSw; go_simp; (try with_reducible rfl))
      try simp only [Act.put]
      try simp only [List.setIfInBounds_toArray]
      try simp only [List.set_cons_succ, List.set_cons_zero]
      refine anyK_last (by kernel_rfl) rfl (fun KP hK => ?_)
      go_simp
      refine hK.out _ _ ?_
      clear hK KP
      refine anyK_done (by kernel_rfl) ?_ _
      clear hHeld
      clear BX HPX BNX o1 hg HP
      go_upto_region 13 with fail
      clear e0 e1 e2
      have HP := HP2
      clear HP2
      generalize w5.setCell ⟨pb, 1, none⟩ (.slice a2 (k + 2) c2) = U at *
      obtain ⟨y0, y1⟩ := HP.out.box
      have r0 : U.cell? ⟨pb + 1, 0, none⟩ = some (.int .i64 0) := cell_of_row _ _ 0 _ _ _ HP.out.res
      have r1 : U.cell? ⟨pb + 1, 1, none⟩ = some (.slice none 0 0) := cell_of_row _ _ 1 _ _ _ HP.out.res
      have rf0 : U.frozen? ⟨pb + 1, 0, none⟩ = false := frozen_of_row _ _ _ _ _ HP.out.res
      have rf1 : U.frozen? ⟨pb + 1, 1, none⟩ = false := frozen_of_row _ _ _ _ _ HP.out.res
      have T1 := heap_setCell_same U (pb + 1) 0 _ 26 (.int .i64 L) HP.out.res
      have T2 := hid (heap_setCell_same _ (pb + 1) 1 _ 26 (.slice a2 (k + 2) c2) T1)
      clear T1
      go_wp2_with fail
      exact bodyPost_ret (results_cell_row Try.results45 _ _ (pb + 1) 26 _ (0, 0) _ rfl T2.out Try.underlying26 rfl size_pg) rfl (bent_fin HP.out ⟨by simp [hl]; omega, Sm2.app HZ.out (two_z _ _ (by simp) (by simp))⟩ HPE.out (by have := HPE.out; omega))
    · have hm := mkZ 92 (by omega) (by omega) v0
      go_simp
      clear hm
      refine hK.out _ _ ?_ (fun hH2 => ?_)
      · exact (HP.out.below (Below.alloc1 v0 (.cells (madeCells #[.int .u8 0] 92) 5))).box
      clear hK KP hHeld
      have hHeld := hH2
      clear hH2
      try simp only [Act.put]
      try simp only [List.setIfInBounds_toArray]
      try simp only [List.set_cons_succ, List.set_cons_zero]
      refine anyK_step (i := 2) (by kernel_rfl) rfl (fun KP hK => ?_)
      have hm := mkZ 92 (by omega) (by omega) (v0.alloc (.cells (madeCells #[.int .u8 0] 92) 5))
      go_simp
      clear hm
      have b2 := hid (two v0 (.cells (madeCells #[.int .u8 0] 92) 5) (.cells (madeCells #[.int .u8 0] 92) 5))
      refine hK.out _ _ ?_ (fun hH2 => ?_)
      · exact (HP.out.below b2.out).box
      clear hK KP hHeld
      have hHeld := hH2
      clear hH2
      try simp only [Act.put]
      try simp only [List.setIfInBounds_toArray]
      try simp only [List.set_cons_succ, List.set_cons_zero]
      have OA := hid (owns_below (Below.alloc1 (v0.alloc (.cells (madeCells #[.int .u8 0] 92) 5)) (.cells (madeCells #[.int .u8 0] 92) 5)) (Nat.le_refl _) (ownZ 92 (by omega) v0))
      have OB := hid (show ((v0.alloc (.cells (madeCells #[.int .u8 0] 92) 5)).alloc (.cells (madeCells #[.int .u8 0] 92) 5)).ownsRow v0.heap.size 5 1 (.slice (some ⟨v0.heap.size + 1, 0, none⟩) 92 92) 92 (bys (List.replicate 92 0)) from by have := ownZ 92 (by omega) (v0.alloc (.cells (madeCells #[.int .u8 0] 92) 5)); rw [alloc_size] at this; exact owns_lower this (by omega))
      have ZX := hid (show ((v0.alloc (.cells (madeCells #[.int .u8 0] 92) 5)).alloc (.cells (madeCells #[.int .u8 0] 92) 5)).heap.size = v0.heap.size + 2 by simp)
      generalize (v0.alloc (.cells (madeCells #[.int .u8 0] 92) 5)).alloc (.cells (madeCells #[.int .u8 0] 92) 5) = X2 at *
      have BN := hid (((HP.out.bands.agree (Agree.below b2.out (Nat.le_refl _))).append (Bands.pair (v1 := .slice (some ⟨(v0.heap.size + 1), 0, none⟩) 92 92) (v2 := .slice (some ⟨v0.heap.size, 0, none⟩) 92 92) (z1 := List.replicate 92 0) (z2 := List.replicate 92 0) OB.out OA.out (rep_bd 92) (rep_bd 92) (.inr (fun e => by have := Option.some.inj e; simp at this)) (Nat.le_refl _)) (by have := HP.out.pbl; have := HP.out.plt; omega) b2.out.size))
      refine anyK_step (i := 4) (by kernel_rfl) rfl (fun KP hK => ?_)
      go_simp
      have bR := Below.alloc1 X2 (.cells #[.slice (some ⟨(v0.heap.size + 1), 0, none⟩) 92 92, .slice (some ⟨v0.heap.size, 0, none⟩) 92 92] 22)
      have BX := hid (b2.out.trans (bR.mono b2.out.size))
      have HPX := hid (HP.out.below BX.out)
      have BNX := hid ((BN.out.agree (Agree.below bR (Nat.le_refl _))).mono (Nat.le_refl _) bR.size)
      clear bR BN OA OB
      refine hK.out _ _ ?_ (fun hH2 => ?_)
      · exact HPX.out.box
      clear hK KP hHeld
      have hHeld := hH2
      clear hH2
      try simp only [Act.put]
      try simp only [List.setIfInBounds_toArray]
      try simp only [List.set_cons_succ, List.set_cons_zero]
      refine anyK_step (i := 5) (by kernel_rfl) rfl (fun KP hK => ?_)
      refine step_append_row (by rfl) _ _ _ (by rfl) w0.heap.size 22 i0 (.slice none 0 0) 1 24 Try.underlying24 hi hz0 hz1 hz2 rfl (by omega) (.slice a k c) k xs (by rfl) HPX.out.own (some ⟨X2.heap.size, 0, none⟩) 2 2 [.slice (some ⟨(v0.heap.size + 1), 0, none⟩) 92 92, .slice (some ⟨v0.heap.size, 0, none⟩) 92 92] (by rfl) rfl (.inr ⟨_, rfl, World.news_of_block (heap_alloc_new X2 _)⟩) (fun e => by cases e) (by simp [Value.oneCell']) (by unfold maxLen; omega) (by omega) (by have := HPX.out.pbl; have := HPX.out.plt; omega) ?_
      intro a2 c2 w5 o1 hg
      have e1 := hg.cell HPX.out.box.2 (own_nk HPX.out.own HPX.out.row (by decide))
      have e0 := hg.cell HPX.out.box.1 (own_nk HPX.out.own HPX.out.row (by decide))
      have e2 := (hg.frozen_far ⟨pb, 1, none⟩ HPX.out.plt (own_nk HPX.out.own HPX.out.row (by decide))).trans (frozen_of_row _ _ _ _ _ HPX.out.row)
      have HP2 := hid (HP.out.grow BX.out BNX.out o1 hg (by simp [hl]))
      refine hK.out _ _ ?_ (fun hH2 => ?_)
      · exact ⟨e0, e1⟩
      clear hK KP hHeld
      have hHeld := hH2
      clear hH2
      try simp only [Act.put]
      try simp only [List.setIfInBounds_toArray]
      try simp only [List.set_cons_succ, List.set_cons_zero]
      refine anyK_take (i := 6) (v := ?v3506) rfl (by kernel_rfl) (by kernel_rfl) (by kernel_rfl) (by kernel_rfl) (fun _ _ _ h => h) (by rfl) hHeld ?hy3506 (some 54) (by rfl) ?rest3506
      case hy3506 => (intro W hSw; obtain ⟨r0, r1⟩ := hSw; go_simp; (try with_reducible rfl))
      try simp only [Act.put]
      try simp only [List.setIfInBounds_toArray]
      try simp only [List.set_cons_succ, List.set_cons_zero]
      refine anyK_last (by kernel_rfl) rfl (fun KP hK => ?_)
      go_simp
      refine hK.out _ _ ?_
      clear hK KP
      refine anyK_done (by kernel_rfl) ?_ _
      clear hHeld
      clear BX HPX BNX o1 hg HP
      go_upto_region 13 with fail
      clear e0 e1 e2
      have HP := HP2
      clear HP2
      generalize w5.setCell ⟨pb, 1, none⟩ (.slice a2 (k + 2) c2) = U at *
      obtain ⟨y0, y1⟩ := HP.out.box
      have r0 : U.cell? ⟨pb + 1, 0, none⟩ = some (.int .i64 0) := cell_of_row _ _ 0 _ _ _ HP.out.res
      have r1 : U.cell? ⟨pb + 1, 1, none⟩ = some (.slice none 0 0) := cell_of_row _ _ 1 _ _ _ HP.out.res
      have rf0 : U.frozen? ⟨pb + 1, 0, none⟩ = false := frozen_of_row _ _ _ _ _ HP.out.res
      have rf1 : U.frozen? ⟨pb + 1, 1, none⟩ = false := frozen_of_row _ _ _ _ _ HP.out.res
      have T1 := heap_setCell_same U (pb + 1) 0 _ 26 (.int .i64 L) HP.out.res
      have T2 := hid (heap_setCell_same _ (pb + 1) 1 _ 26 (.slice a2 (k + 2) c2) T1)
      clear T1
      go_wp2_with fail
      exact bodyPost_ret (results_cell_row Try.results45 _ _ (pb + 1) 26 _ (0, 0) _ rfl T2.out Try.underlying26 rfl size_pg) rfl (bent_fin HP.out ⟨by simp [hl]; omega, Sm2.app HZ.out (two_z _ _ (by simp) (by simp))⟩ HPE.out (by have := HPE.out; omega))
  have h4' : (x == 4) = false := by simpa using h4
  go_upto_region 13 with fail
  obtain ⟨y0, y1⟩ := HP.out.box
  have r0 : w1.cell? ⟨pb + 1, 0, none⟩ = some (.int .i64 0) := cell_of_row _ _ 0 _ _ _ HP.out.res
  have r1 : w1.cell? ⟨pb + 1, 1, none⟩ = some (.slice none 0 0) := cell_of_row _ _ 1 _ _ _ HP.out.res
  have rf0 : w1.frozen? ⟨pb + 1, 0, none⟩ = false := frozen_of_row _ _ _ _ _ HP.out.res
  have rf1 : w1.frozen? ⟨pb + 1, 1, none⟩ = false := frozen_of_row _ _ _ _ _ HP.out.res
  have T1 := heap_setCell_same w1 (pb + 1) 0 _ 26 (.int .i64 L) HP.out.res
  have T2 := hid (heap_setCell_same _ (pb + 1) 1 _ 26 (.slice a k c) T1)
  clear T1
  go_wp2_with fail
  exact bodyPost_ret (results_cell_row Try.results45 _ _ (pb + 1) 26 _ (0, 0) _ rfl T2.out Try.underlying26 rfl size_pg) rfl (bent_fin HP.out HS.out HPE.out (by have := HPE.out; omega))
end Go.Proofs.Ytioefplkadpfnaa
