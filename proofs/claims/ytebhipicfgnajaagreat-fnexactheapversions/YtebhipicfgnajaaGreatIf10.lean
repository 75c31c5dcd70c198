/- The program's rowsThat with the wish of HeapVersions. Conditions: what the types say. -/
import Derived.Test.YtebhipicfgnajaaGreatId10
import Derived.Test.YtebhipicfgnajaaGreatIe10
namespace Go.Proofs.YtebhipicfgnajaaGreat
open Go.RowKit Go.Shelf
attribute [local go_sem] Oper.semAt_some
set_option maxRecDepth 100000


set_option maxHeartbeats 12800000 in
theorem rowsThat_versions (Bk : Nat) {ad : Option Addr} {n : Nat} (cap : Nat) {ps : List Pg} {w : World} (hR : ReadsG w ad ps) (hl : ps.length = n) (hok : okH ps = true) (p : Rw → Bool)
    (hP : ∀ (r : Rw) (f1 f2 : Nat) (a5 : Option Addr) (c5 : Nat) (a6 : Option Addr) (c6 : Nat) (W0 W : World), Below w.heap.size w W → RowIs r f1 f2 a5 c5 a6 c6 W0 W → Calls Tryz.prog 68 #[.agg #[.int .i64 r.p, .int .i64 r.s, .int .i64 r.t.A, .int .i64 r.t.B, .int .i64 r.t.K, .int .i64 r.t.N, .float .f64 f1, .slice a5 r.t.Z.length c5, .int .i64 r.t.L, .int .i64 r.t.M, .float .f64 f2, .slice a6 r.t.Y.length c6], .pointer (some ⟨Bk, 0, none⟩)] W fun e W' => e = .returned (.bool (p r)) ∧ Below W.heap.size W W') :
    Calls Tryz.prog 67 #[.agg #[.slice ad n cap], .func (.func 68) #[] #[.pointer (some ⟨Bk, 0, none⟩)]] w fun e w' => ∃ v, e = .returned v ∧ OwnRw w' w.heap.size w'.heap.size v ((rowsG 0 ps).filter p) ∧ Below w.heap.size w w' := by
  obtain ⟨i0, hi, hz0, hz1, hz2⟩ := info_parts Tryz.infoRw
  refine (callsIn_wide (n := 5)).1 ?_
  refine callsIn_of_wp_marks Tryz.func67 rfl trivial ?_ rfl
  simp only [Tryz.ntmps67, List.size_toArray, List.length_cons, List.length_nil, Nat.reduceAdd, Nat.reduceSub, Array.replicate_succ, Array.replicate_zero, List.push_toArray, List.append_toArray, List.nil_append, List.cons_append]
  gi_wp2_with (refine ⟨trivial, ?_⟩; gi_at_call 93; refine ((callsIn_wide (n := _)).2 (rows_make ad n cap _)).mono ?_; rintro e w' ⟨rfl, rfl⟩)
  have z1 := alloc_size w (.cells #[.slice ad n cap] 26)
  have z2 := alloc_size (w.alloc (.cells #[.slice ad n cap] 26)) (.cells #[.func (.func 68) #[] #[.pointer (some ⟨Bk, 0, none⟩)]] 101)
  have z3 := alloc_size ((w.alloc (.cells #[.slice ad n cap] 26)).alloc (.cells #[.func (.func 68) #[] #[.pointer (some ⟨Bk, 0, none⟩)]] 101)) (.cells #[.slice none 0 0] 35)
  have z4 := alloc_size (((w.alloc (.cells #[.slice ad n cap] 26)).alloc (.cells #[.func (.func 68) #[] #[.pointer (some ⟨Bk, 0, none⟩)]] 101)).alloc (.cells #[.slice none 0 0] 35)) (.cells #[.slice ad n cap] 26)
  have bF := Boxed.new (w.alloc (.cells #[.slice ad n cap] 26)) 101 (.func (.func 68) #[] #[.pointer (some ⟨Bk, 0, none⟩)])
  have bL := Boxed.new ((w.alloc (.cells #[.slice ad n cap] 26)).alloc (.cells #[.func (.func 68) #[] #[.pointer (some ⟨Bk, 0, none⟩)]] 101)) 35 (.slice none 0 0)
  have bH := Boxed.new (((w.alloc (.cells #[.slice ad n cap] 26)).alloc (.cells #[.func (.func 68) #[] #[.pointer (some ⟨Bk, 0, none⟩)]] 101)).alloc (.cells #[.slice none 0 0] 35)) 26 (.slice ad n cap)
  rw [z1] at bF z2
  rw [z2] at bL z3
  rw [z3] at bH z4
  have b1 : Below w.heap.size w ((((w.alloc (.cells #[.slice ad n cap] 26)).alloc (.cells #[.func (.func 68) #[] #[.pointer (some ⟨Bk, 0, none⟩)]] 101)).alloc (.cells #[.slice none 0 0] 35)).alloc (.cells #[.slice ad n cap] 26)) := ((((Below.refl _ w).alloc (Nat.le_refl _) _).alloc (by omega) _).alloc (by omega) _).alloc (by omega) _
  have HB1 := hid b1
  have HF := hid ((bF.alloc (.cells #[.slice none 0 0] 35)).alloc (.cells #[.slice ad n cap] 26))
  have HL := hid (bL.alloc (.cells #[.slice ad n cap] 26))
  have HH := hid bH
  have HZ := hid z4
  clear b1 bF bL bH z1 z2 z3 z4
  generalize (((w.alloc (.cells #[.slice ad n cap] 26)).alloc (.cells #[.func (.func 68) #[] #[.pointer (some ⟨Bk, 0, none⟩)]] 101)).alloc (.cells #[.slice none 0 0] 35)).alloc (.cells #[.slice ad n cap] 26) = w1 at *
  refine range_calm (F := Fence.wide) rfl (by omega) (gf := 144) (lb := #[.pointer (some ⟨w.heap.size + 1 + 1 + 1, 0, none⟩)]) rfl trivial (enters_of Tryz.func144 (by kernel_rfl) rfl)
    RowAt (fun x v W W' hx => by obtain ⟨f1, f2, a5, c5, a6, c6, rfl, _⟩ := hx; rfl)
    (fun rs W => ((∃ v, Boxed W (w.heap.size + 1 + 1) 35 v ∧ OwnRw W (w.heap.size + 1 + 1 + 1 + 1) W.heap.size v (rs.filter p)) ∧ Boxed W (w.heap.size + 1) 101 (.func (.func 68) #[] #[.pointer (some ⟨Bk, 0, none⟩)]) ∧ Boxed W (w.heap.size + 1 + 1 + 1) 26 (.slice ad n cap)) ∧ Below w.heap.size w W)
    ?hI ⟨⟨⟨_, HL.out, OwnRw.nil _ _ _⟩, HF.out, HH.out⟩, HB1.out⟩ (fun xs => xs = rowsG 0 ps) 256
    (fun W => Below w.heap.size w W ∧ Boxed W (w.heap.size + 1 + 1 + 1) 26 (.slice ad n cap)) (fun s W h => ⟨h.2, h.1.2.2⟩)
    (fun l J W hG hJ hY h0 => rows_iter 4 (by omega) l (w.heap.size + 1 + 1 + 1) cap hR hl hok J (fun s W h => ⟨(hG s W h).1, (hG s W h).2.cell⟩) hJ hY h0)
    (fun r W0 a' W => ∃ (f1 f2 : Nat) (a5 : Option Addr) (c5 : Nat) (a6 : Option Addr) (c6 : Nat) (bx : Nat), a' = { tmps := #[.agg #[.slice ad n cap], .func (.func 68) #[] #[.pointer (some ⟨Bk, 0, none⟩)], .pointer (some ⟨w.heap.size, 0, none⟩), .pointer (some ⟨w.heap.size + 1, 0, none⟩), .slice none 0 0, .pointer (some ⟨w.heap.size + 1 + 1, 0, none⟩), .pointer (some ⟨bx, 0, none⟩), .agg #[.slice ad n cap], .func (.func 144) #[] #[.pointer (some ⟨w.heap.size + 1 + 1 + 1, 0, none⟩)], .agg #[.int .i64 r.p, .int .i64 r.s, .int .i64 r.t.A, .int .i64 r.t.B, .int .i64 r.t.K, .int .i64 r.t.N, .float .f64 f1, .slice a5 r.t.Z.length c5, .int .i64 r.t.L, .int .i64 r.t.M, .float .f64 f2, .slice a6 r.t.Y.length c6], undef, undef, undef, undef, undef, undef, undef, undef], defers := [] } ∧ RowIs r f1 f2 a5 c5 a6 c6 W0 W ∧ W.heap[bx]? = some (.cells #[.int .i64 r.p, .int .i64 r.s, .int .i64 r.t.A, .int .i64 r.t.B, .int .i64 r.t.K, .int .i64 r.t.N, .float .f64 f1, .slice a5 r.t.Z.length c5, .int .i64 r.t.L, .int .i64 r.t.M, .float .f64 f2, .slice a6 r.t.Y.length c6] 42 (0, 0)))
    ?hA ?assign ?body ?done
  case hI =>
    rintro s W W' ⟨⟨⟨v, hv, ow⟩, hf, hh⟩, hB⟩ c
    exact ⟨⟨⟨v, c.boxed hv, (ow.calm c).mono (Nat.le_refl _) c.size⟩, c.boxed hf, c.boxed hh⟩, hB.trans ((c.below (by have := hh.lt; have := HZ.out; omega)).mono (by have := HZ.out; omega))⟩
  case hA =>
    rintro r W0 a' W W' ⟨f1, f2, a5, c5, a6, c6, bx, rfl, hx, hb⟩ c
    exact ⟨f1, f2, a5, c5, a6, c6, bx, rfl, hx.calm c, c.cells hb⟩
  case assign =>
    rintro l r v W0 W K b ⟨f1, f2, a5, c5, a6, c6, rfl, hx⟩ hK
    have hst1 := fun w a m => run_store Tryz.prog w a (.float .f64 f1) m rfl
    have hst2 := fun w a m => run_store Tryz.prog w a (.float .f64 f2) m rfl
    have HK := hid hK
    clear hK
    gi_wp2
    exact HK.out _ _ (Below.alloc1 _ _) ⟨f1, f2, a5, c5, a6, c6, W.heap.size, rfl, hx.calm (B := 0) (Calm.of_below (Below.alloc1 _ _)), heap_alloc_new _ _⟩
  case body =>
    rintro l pre r W0 a' W ⟨⟨⟨v, hv, ow⟩, hfb, hhb⟩, hB⟩ hN hc ⟨f1, f2, a5, c5, a6, c6, bx, rfl, hx, hbx⟩
    have hst1 := fun w a m => run_store Tryz.prog w a (.float .f64 f1) m rfl
    have hst2 := fun w a m => run_store Tryz.prog w a (.float .f64 f2) m rfl
    have hBW : Below w.heap.size w W := hB.trans ((hc.below (by have := hhb.lt; have := HZ.out; omega)).mono (by have := HZ.out; omega))
    have hf2 := hc.boxed hfb
    have hcf := hf2.cell
    have HP := hid (hP r f1 f2 a5 c5 a6 c6 W0 W hBW hx)
    have hcx : ∀ q u, [.int .i64 r.p, .int .i64 r.s, .int .i64 r.t.A, .int .i64 r.t.B, .int .i64 r.t.K, .int .i64 r.t.N, .float .f64 f1, .slice a5 r.t.Z.length c5, .int .i64 r.t.L, .int .i64 r.t.M, .float .f64 f2, .slice a6 r.t.Y.length c6][q]? = some u → W.cell? ⟨bx, q, none⟩ = some u := fun q u hq => by rw [cell_of_row _ _ _ _ _ _ hbx]; simpa using hq
    have x0 := hcx 0 _ rfl
    have x1 := hcx 1 _ rfl
    have x2 := hcx 2 _ rfl
    have x3 := hcx 3 _ rfl
    have x4 := hcx 4 _ rfl
    have x5 := hcx 5 _ rfl
    have x6 := hcx 6 _ rfl
    have x7 := hcx 7 _ rfl
    have x8 := hcx 8 _ rfl
    have x9 := hcx 9 _ rfl
    have x10 := hcx 10 _ rfl
    have x11 := hcx 11 _ rfl
    have HV := hid hv
    have HOW := hid ow
    have HHB := hid hhb
    have HFB := hid hf2
    have HBW := hid hBW
    have HX := hid hx
    have HBX := hid hbx
    have HC := hid hc
    clear hcx hv ow hhb hfb hf2 hBW hx hbx hc hB
    gi_wp2_with fail
    refine ⟨trivial, ?_⟩
    refine (CallsIn.inRound l ((callsIn_wide (n := _)).2 HP.out)).mono ?_
    rintro e w2 ⟨rfl, b2⟩
    have c2 : Calm w1.heap.size W w2 := Calm.of_below b2
    have c3 := HC.out.trans c2
    have hv2 := c3.boxed HV.out
    have hh2 := c3.boxed HHB.out
    have hf3 := c2.boxed HFB.out
    have ow2 := HOW.out.calm c3
    have HB2 := hid (HBW.out.trans (b2.mono HBW.out.size))
    have HKf := hid (KeepsFrom.of_below (B := w1.heap.size) b2)
    have HLM := hid (show w.heap.size + 1 + 1 + 1 + 1 ≤ W0.heap.size from HHB.out.lt)
    have HSZ := hid c3.size
    clear hcf x0 x1 x2 x3 x4 x5 x6 x7 x8 x9 x10 x11
    cases hpr : p r with
    | false =>
      have HE := hid (show (pre ++ [r]).filter p = pre.filter p by rw [List.filter_append]; simp [hpr])
      have HV2 := hid hv2
      have HH2 := hid hh2
      have HF3 := hid hf3
      have HO2 := hid (ow2.mono (Nat.le_refl _) HSZ.out)
      clear hv2 hh2 hf3 ow2 b2 c2 c3 hpr
      gi_wp2
      rw [← List.filter_append, HE.out]
      exact ⟨HKf.out, ⟨⟨_, HV2.out, HO2.out⟩, HF3.out, HH2.out⟩, HB2.out⟩
    | true =>
      have HE := hid (show (pre ++ [r]).filter p = pre.filter p ++ [r] by rw [List.filter_append]; simp [hpr])
      have hbx2 := c2.cells HBX.out
      have hx2 := HX.out.calm c2
      obtain ⟨k, hk⟩ : ∃ k, (pre.filter p).length = k := ⟨_, rfl⟩
      have hkN : k < 256 := by have := List.length_filter_le p pre; omega
      obtain ⟨a, c, rfl⟩ := ow2.slice
      rw [hk] at hv2 ow2
      have hcv := hv2.cell
      have hfv := hv2.frozen
      have hcx : ∀ q u, [.int .i64 r.p, .int .i64 r.s, .int .i64 r.t.A, .int .i64 r.t.B, .int .i64 r.t.K, .int .i64 r.t.N, .float .f64 f1, .slice a5 r.t.Z.length c5, .int .i64 r.t.L, .int .i64 r.t.M, .float .f64 f2, .slice a6 r.t.Y.length c6][q]? = some u → w2.cell? ⟨bx, q, none⟩ = some u := fun q u hq => by rw [cell_of_row _ _ _ _ _ _ hbx2]; simpa using hq
      have x0 := hcx 0 _ rfl
      have x1 := hcx 1 _ rfl
      have x2 := hcx 2 _ rfl
      have x3 := hcx 3 _ rfl
      have x4 := hcx 4 _ rfl
      have x5 := hcx 5 _ rfl
      have x6 := hcx 6 _ rfl
      have x7 := hcx 7 _ rfl
      have x8 := hcx 8 _ rfl
      have x9 := hcx 9 _ rfl
      have x10 := hcx 10 _ rfl
      have x11 := hcx 11 _ rfl
      obtain ⟨fs, xs, o7, hf7, hB7, hq7⟩ := ow2.own
      rw [hk] at o7
      have HK := hid hk
      have bX := Below.alloc1 w2 (.cells #[.int .i64 r.p, .int .i64 r.s, .int .i64 r.t.A, .int .i64 r.t.B, .int .i64 r.t.K, .int .i64 r.t.N, .float .f64 f1, .slice a5 r.t.Z.length c5, .int .i64 r.t.L, .int .i64 r.t.M, .float .f64 f2, .slice a6 r.t.Y.length c6] 42)
      have zX := alloc_size w2 (.cells #[.int .i64 r.p, .int .i64 r.s, .int .i64 r.t.A, .int .i64 r.t.B, .int .i64 r.t.K, .int .i64 r.t.N, .float .f64 f1, .slice a5 r.t.Z.length c5, .int .i64 r.t.L, .int .i64 r.t.M, .float .f64 f2, .slice a6 r.t.Y.length c6] 42)
      have O7 := hid (o7.alloc (.cells #[.int .i64 r.p, .int .i64 r.s, .int .i64 r.t.A, .int .i64 r.t.B, .int .i64 r.t.K, .int .i64 r.t.N, .float .f64 f1, .slice a5 r.t.Z.length c5, .int .i64 r.t.L, .int .i64 r.t.M, .float .f64 f2, .slice a6 r.t.Y.length c6] 42))
      have HB7 := hid (hB7.agree (Agree.below bX HSZ.out))
      have HXX := hid (hx2.calm (B := 0) (Calm.of_below bX))
      have HF7 := hid hf7
      have HQ7 := hid hq7
      have HV2 := hid hv2
      have HO := hid o7
      have HH2 := hid hh2
      have HF3 := hid hf3
      clear hcx o7 hB7 hx2 hf7 hq7 hk ow2 hv2 bX hh2 hf3 b2 c2 c3 hbx2 hpr
      gi_wp2_with (gi_at_builtin; refine wpListIn_append_own _ rfl _ _ 35 rfl (w.heap.size + 1 + 1 + 1 + 1) 42 i0 _ 12 128 Tryz.underlying35 hi hz0 hz1 hz2 rfl (by decide) _ _ _ rfl O7.out ⟨w2.heap.size, 0, none⟩ 1 1 [.int .i64 r.p, .int .i64 r.s, .int .i64 r.t.A, .int .i64 r.t.B, .int .i64 r.t.K, .int .i64 r.t.N, .float .f64 f1, .slice a5 r.t.Z.length c5, .int .i64 r.t.L, .int .i64 r.t.M, .float .f64 f2, .slice a6 r.t.Y.length c6] rfl rfl ?g1 ?g2 (by unfold maxLen; omega) (by omega) ?g3 ?_)
      case g1 => exact fun q u hq => by rw [show Addr.add ⟨w2.heap.size, 0, none⟩ q = ⟨w2.heap.size, q, none⟩ by simp [Addr.add]; intro h; omega, cell_of_row _ _ _ _ _ _ (heap_alloc_new w2 _)]; simpa using hq
      case g2 => intro u hu; simp only [List.mem_cons, List.not_mem_nil, or_false] at hu; rcases hu with rfl | rfl | rfl | rfl | rfl | rfl | rfl | rfl | rfl | rfl | rfl | rfl <;> rfl
      case g3 => have := HLM.out; have := HSZ.out; omega
      intro v' w3 o8 g8 _
      have hne : ∀ j, (Value.slice a k c).ownBlock = some j → w.heap.size + 1 + 1 + 1 + 1 ≤ j := fun j ej => (O7.out.lt j ej).1
      have hapd := HV2.out.appended (n₀ := w.heap.size) (by decide) (owns_lower HO.out (by omega)) (by have := HV2.out.lt; omega) (by omega) (owns_lower (base' := w.heap.size) o8 (by omega)) g8
      obtain ⟨g', cap', rfl⟩ := ownsRow_succ o8
      obtain ⟨hv1, hv3, _, hk3, hb3⟩ := hapd
      have hc1 := hv1.cell
      have hf1 := hv1.frozen
      have HN := hid (OwnRw.push (mid := W0.heap.size) (r := r) (f := (f1, f2)) O7.out HK.out HF7.out HB7.out HQ7.out HLM.out (by have := HSZ.out; omega) HXX.out.o1 HXX.out.o2 HXX.out.z HXX.out.y HXX.out.ap HXX.out.same o8 g8)
      have HFF := hid (((HF3.out.alloc (.cells #[.int .i64 r.p, .int .i64 r.s, .int .i64 r.t.A, .int .i64 r.t.B, .int .i64 r.t.K, .int .i64 r.t.N, .float .f64 f1, .slice a5 r.t.Z.length c5, .int .i64 r.t.L, .int .i64 r.t.M, .float .f64 f2, .slice a6 r.t.Y.length c6] 42)).kept g8 (fun e => by have := hne _ e.symm; omega)).other (B' := w.heap.size + 1 + 1) (by omega) (.slice (some ⟨g', 0, none⟩) (k + 1) cap'))
      have HHH := hid (((HH2.out.alloc (.cells #[.int .i64 r.p, .int .i64 r.s, .int .i64 r.t.A, .int .i64 r.t.B, .int .i64 r.t.K, .int .i64 r.t.N, .float .f64 f1, .slice a5 r.t.Z.length c5, .int .i64 r.t.L, .int .i64 r.t.M, .float .f64 f2, .slice a6 r.t.Y.length c6] 42)).kept g8 (fun e => by have := hne _ e.symm; omega)).other (B' := w.heap.size + 1 + 1) (by omega) (.slice (some ⟨g', 0, none⟩) (k + 1) cap'))
      have HV3 := hid hv3
      have HK3 := hid hk3
      have HB3 := hid hb3
      clear o8 g8 hv1 hv3 hk3 hb3 hne
      gi_wp2
      rw [← List.filter_append, HE.out]
      refine ⟨HKf.out.trans (HK3.out.from _), ⟨⟨_, HV3.out, ?_⟩, HFF.out, HHH.out⟩, HB2.out.trans HB3.out⟩
      exact HN.out.agree (fun q hq _ => heap_set_ne w3 (w.heap.size + 1 + 1) 0 q _ (by omega))
  case done =>
    rintro Dd xs W hD rfl ⟨⟨⟨v, hv, ow⟩, _, _⟩, hB⟩ hK
    have hcv := hv.cell
    have hlt := hv.lt
    have HV := hid hv
    have HO := hid ow
    have HB := hid hB
    have HKK := hid hK
    clear hv ow hB hK
    gi_wp2
    refine ⟨by simp, .inl ⟨_, _, rfl, run_takeDeferred HKK.out, ?_⟩⟩
    have hzz := HZ.out
    have bP := belowK_b (w := w) (n₀ := w.heap.size) (Nat.le_refl _) W Dd _ (.deferred none) (by omega) HKK.out rfl rfl
    have cP : Calm (w.heap.size + 1) W (W.putObj Dd (.deferred none)) := Calm.putObj _ (by omega) HKK.out rfl
    refine ⟨v, ?_, v, rfl, ?_, HB.out.trans bP⟩
    · simp [results, Tryz.f67, go_sem]
    · exact ((HO.out.calm cP).mono (by omega) cP.size)
end Go.Proofs.YtebhipicfgnajaaGreat
