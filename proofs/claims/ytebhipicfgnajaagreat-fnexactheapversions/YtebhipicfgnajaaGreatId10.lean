/- The rows of a heap, collected by the library's slices.Collect; the contract of the program's HeapRows. Conditions: what the types say. -/
import Derived.Test.YtebhipicfgnajaaGreatIc10
import Derived.Test.YtebhipicfgnajaaGreatHk10
namespace Go.Proofs.YtebhipicfgnajaaGreat
open Go.RowKit Go.Shelf
attribute [local go_sem] Oper.semAt_some
set_option maxRecDepth 100000

set_option maxHeartbeats 12800000 in
theorem appendSeq_rows (Bh : Nat) {ad : Option Addr} {n : Nat} (cap : Nat) {ps : List Pg} {w : World} (hR : ReadsG w ad ps) (hl : ps.length = n) (hok : okH ps = true) (hBh : Bh < w.heap.size) (hBx : w.cell? ⟨Bh, 0, none⟩ = some (.slice ad n cap)) :
    Calls Tryz.prog 143 #[.slice none 0 0, .func (.func 144) #[] #[.pointer (some ⟨Bh, 0, none⟩)]] w fun e w' => ∃ v, e = .returned v ∧ OwnRw w' w.heap.size w'.heap.size v (rowsG 0 ps) ∧ Below w.heap.size w w' := by
  obtain ⟨i0, hi, hz0, hz1, hz2⟩ := info_parts Tryz.infoRw
  refine (callsIn_wide (n := 5)).1 ?_
  refine callsIn_of_wp_marks Tryz.func143 rfl trivial ?_ rfl
  simp only [Tryz.ntmps143, List.size_toArray, List.length_cons, List.length_nil, Nat.reduceAdd, Nat.reduceSub, Array.replicate_succ, Array.replicate_zero, List.push_toArray, List.append_toArray, List.nil_append, List.cons_append]
  gi_wp2
  have bB := Boxed.new w 35 (.slice none 0 0)
  have b1 := Below.alloc1 w (.cells #[.slice none 0 0] 35)
  have z1 := alloc_size w (.cells #[.slice none 0 0] 35)
  refine range_calm (F := Fence.wide) rfl (by omega) (gf := 144) (lb := #[.pointer (some ⟨Bh, 0, none⟩)]) rfl trivial (enters_of Tryz.func144 (by kernel_rfl) rfl)
    RowAt (fun x v W W' hx => by obtain ⟨f1, f2, a5, c5, a6, c6, rfl, _⟩ := hx; rfl)
    (fun rs W => (∃ v, Boxed W w.heap.size 35 v ∧ OwnRw W (w.heap.size + 1) W.heap.size v rs) ∧ Below w.heap.size w W)
    ?hI ⟨⟨_, bB, OwnRw.nil _ _ _⟩, b1⟩ (fun xs => xs = rowsG 0 ps) 256
    (fun W => Below w.heap.size w W) (fun s W h => h.2)
    (fun l J W hG hJ hY h0 => rows_iter 4 (by omega) l Bh cap hR hl hok J (fun s W h => ⟨hG s W h, ((hG s W h).cell (p := ⟨Bh, 0, none⟩) hBh).trans hBx⟩) hJ hY h0)
    (fun r W0 a' W => ∃ (f1 f2 : Nat) (a5 : Option Addr) (c5 : Nat) (a6 : Option Addr) (c6 : Nat) (bx : Nat), a' = { tmps := #[.slice none 0 0, .func (.func 144) #[] #[.pointer (some ⟨Bh, 0, none⟩)], .pointer (some ⟨w.heap.size, 0, none⟩), undef, .slice none 0 0, .pointer (some ⟨bx, 0, none⟩), .func (.func 144) #[] #[.pointer (some ⟨Bh, 0, none⟩)], .agg #[.int .i64 r.p, .int .i64 r.s, .int .i64 r.t.A, .int .i64 r.t.B, .int .i64 r.t.K, .int .i64 r.t.N, .float .f64 f1, .slice a5 r.t.Z.length c5, .int .i64 r.t.L, .int .i64 r.t.M, .float .f64 f2, .slice a6 r.t.Y.length c6], undef, undef, undef, undef, undef], defers := [] } ∧ RowIs r f1 f2 a5 c5 a6 c6 W0 W ∧ W.heap[bx]? = some (.cells #[.int .i64 r.p, .int .i64 r.s, .int .i64 r.t.A, .int .i64 r.t.B, .int .i64 r.t.K, .int .i64 r.t.N, .float .f64 f1, .slice a5 r.t.Z.length c5, .int .i64 r.t.L, .int .i64 r.t.M, .float .f64 f2, .slice a6 r.t.Y.length c6] 42 (0, 0)))
    ?hA ?assign ?body ?done
  case hI =>
    rintro s W W' ⟨⟨v, hv, ow⟩, hB⟩ c
    exact ⟨⟨v, c.boxed hv, (ow.calm c).mono (Nat.le_refl _) c.size⟩, hB.trans ((c.below (by have := hv.lt; omega)).mono (by omega))⟩
  case hA =>
    rintro r W0 a' W W' ⟨f1, f2, a5, c5, a6, c6, bx, rfl, hx, hb⟩ c
    exact ⟨f1, f2, a5, c5, a6, c6, bx, rfl, hx.calm c, c.cells hb⟩
  case assign =>
    rintro l r v W0 W K b ⟨f1, f2, a5, c5, a6, c6, rfl, hx⟩ hK
    have hst1 := fun w a m => run_store Tryz.prog w a (.float .f64 f1) m rfl
    have hst2 := fun w a m => run_store Tryz.prog w a (.float .f64 f2) m rfl
    have HK := hid hK
    clear hK
    gi_wp2
    exact HK.out _ _ (Below.alloc1 _ _) ⟨f1, f2, a5, c5, a6, c6, W.heap.size, rfl, hx.calm (B := 0) (Calm.of_below (Below.alloc1 _ _)), heap_alloc_new _ _⟩
  case body =>
    rintro l pre r W0 a' W ⟨⟨v, hv, ow⟩, hB⟩ hN hc ⟨f1, f2, a5, c5, a6, c6, bx, rfl, hx, hbx⟩
    have hst1 := fun w a m => run_store Tryz.prog w a (.float .f64 f1) m rfl
    have hst2 := fun w a m => run_store Tryz.prog w a (.float .f64 f2) m rfl
    have hv2 := hc.boxed hv
    have ow2 := ow.calm hc
    obtain ⟨a, c, rfl⟩ := ow2.slice
    have hcv := hv2.cell
    have hfv := hv2.frozen
    have hcx : ∀ q u, [.int .i64 r.p, .int .i64 r.s, .int .i64 r.t.A, .int .i64 r.t.B, .int .i64 r.t.K, .int .i64 r.t.N, .float .f64 f1, .slice a5 r.t.Z.length c5, .int .i64 r.t.L, .int .i64 r.t.M, .float .f64 f2, .slice a6 r.t.Y.length c6][q]? = some u → W.cell? ⟨bx, q, none⟩ = some u := fun q u hq => by rw [cell_of_row _ _ _ _ _ _ hbx]; simpa using hq
    have x0 := hcx 0 _ rfl
    have x1 := hcx 1 _ rfl
    have x2 := hcx 2 _ rfl
    have x3 := hcx 3 _ rfl
    have x4 := hcx 4 _ rfl
    have x5 := hcx 5 _ rfl
    have x6 := hcx 6 _ rfl
    have x7 := hcx 7 _ rfl
    have x8 := hcx 8 _ rfl
    have x9 := hcx 9 _ rfl
    have x10 := hcx 10 _ rfl
    have x11 := hcx 11 _ rfl
    obtain ⟨fs, xs, o7, hf7, hB7, hq7⟩ := ow2.own
    obtain ⟨k, hk⟩ : ∃ k, pre.length = k := ⟨_, rfl⟩
    rw [hk] at o7 hN hcv hv2
    have HK := hid hk
    have bX := Below.alloc1 W (.cells #[.int .i64 r.p, .int .i64 r.s, .int .i64 r.t.A, .int .i64 r.t.B, .int .i64 r.t.K, .int .i64 r.t.N, .float .f64 f1, .slice a5 r.t.Z.length c5, .int .i64 r.t.L, .int .i64 r.t.M, .float .f64 f2, .slice a6 r.t.Y.length c6] 42)
    have zX := alloc_size W (.cells #[.int .i64 r.p, .int .i64 r.s, .int .i64 r.t.A, .int .i64 r.t.B, .int .i64 r.t.K, .int .i64 r.t.N, .float .f64 f1, .slice a5 r.t.Z.length c5, .int .i64 r.t.L, .int .i64 r.t.M, .float .f64 f2, .slice a6 r.t.Y.length c6] 42)
    have O7 := hid (o7.alloc (.cells #[.int .i64 r.p, .int .i64 r.s, .int .i64 r.t.A, .int .i64 r.t.B, .int .i64 r.t.K, .int .i64 r.t.N, .float .f64 f1, .slice a5 r.t.Z.length c5, .int .i64 r.t.L, .int .i64 r.t.M, .float .f64 f2, .slice a6 r.t.Y.length c6] 42))
    have HB7 := hid (hB7.agree (Agree.below bX (Nat.le_trans (hc.size) (Nat.le_refl _))))
    have HX := hid (hx.calm (B := 0) (Calm.of_below bX))
    have HF7 := hid hf7
    have HQ7 := hid hq7
    have HV := hid hv2
    have HO := hid o7
    have HBW := hid (hB.trans ((hc.below (by have := hv.lt; omega)).mono (by omega)))
    have HC := hid hc.size
    have HLM := hid (show w.heap.size + 1 ≤ W0.heap.size from hv.lt)
    clear hcx o7 hB7 hx hf7 hq7 hk ow ow2 hv hv2 hB bX hc
    gi_wp2_with (gi_at_builtin; refine wpListIn_append_own _ rfl _ _ 35 rfl (w.heap.size + 1) 42 i0 _ 12 128 Tryz.underlying35 hi hz0 hz1 hz2 rfl (by decide) _ _ _ rfl O7.out ⟨W.heap.size, 0, none⟩ 1 1 [.int .i64 r.p, .int .i64 r.s, .int .i64 r.t.A, .int .i64 r.t.B, .int .i64 r.t.K, .int .i64 r.t.N, .float .f64 f1, .slice a5 r.t.Z.length c5, .int .i64 r.t.L, .int .i64 r.t.M, .float .f64 f2, .slice a6 r.t.Y.length c6] rfl rfl ?g1 ?g2 (by unfold maxLen; omega) (by omega) ?g3 ?_)
    case g1 => exact fun q u hq => by rw [show Addr.add ⟨W.heap.size, 0, none⟩ q = ⟨W.heap.size, q, none⟩ by simp [Addr.add]; intro h; omega, cell_of_row _ _ _ _ _ _ (heap_alloc_new W _)]; simpa using hq
    case g2 => intro u hu; simp only [List.mem_cons, List.not_mem_nil, or_false] at hu; rcases hu with rfl | rfl | rfl | rfl | rfl | rfl | rfl | rfl | rfl | rfl | rfl | rfl <;> rfl
    case g3 => have := HLM.out; have := HC.out; omega
    intro v' w1 o8 g8 _
    have hap := HV.out.appended (n₀ := w.heap.size) (by decide) (owns_lower HO.out (by omega)) (by have := HV.out.lt; omega) (Nat.le_refl _) (owns_lower (base' := w.heap.size) o8 (by omega)) g8
    obtain ⟨g', cap', rfl⟩ := ownsRow_succ o8
    obtain ⟨hv1, hv3, _, hk3, hb3⟩ := hap
    have hc1 := hv1.cell
    have hf1 := hv1.frozen
    have HN := hid (OwnRw.push (mid := W0.heap.size) (r := r) (f := (f1, f2)) O7.out HK.out HF7.out HB7.out HQ7.out HLM.out (by have := HC.out; omega) HX.out.o1 HX.out.o2 HX.out.z HX.out.y HX.out.ap HX.out.same o8 g8)
    have HV3 := hid hv3
    have HK3 := hid hk3
    have HB3 := hid hb3
    clear o8 g8 hv1 hv3 hk3 hb3
    gi_wp2
    refine ⟨HK3.out.from _, ⟨_, HV3.out, ?_⟩, HBW.out.trans HB3.out⟩
    exact HN.out.agree (fun q hq _ => heap_set_ne w1 w.heap.size 0 q _ (by omega))
  case done =>
    rintro Dd xs W hD rfl ⟨⟨v, hv, ow⟩, hB⟩ hK
    have hcv := hv.cell
    have hlt := hv.lt
    have HV := hid hv
    have HO := hid ow
    have HB := hid hB
    have HKK := hid hK
    clear hv ow hB hK
    gi_wp2
    refine ⟨by simp, .inl ⟨_, _, rfl, run_takeDeferred HKK.out, ?_⟩⟩
    have bP := belowK_b (w := w) (n₀ := w.heap.size) (Nat.le_refl _) W Dd _ (.deferred none) (by have := z1; omega) HKK.out rfl rfl
    have cP : Calm (w.heap.size + 1) W (W.putObj Dd (.deferred none)) := Calm.putObj _ (by omega) HKK.out rfl
    refine ⟨v, ?_, v, rfl, ?_, HB.out.trans bP⟩
    · simp [results, Tryz.f143, go_sem]
    · exact ((HO.out.calm cP).mono (by omega) cP.size)

theorem rows_make (ad : Option Addr) (n cap : Nat) (w : World) :
    Calls Tryz.prog 93 #[.agg #[.slice ad n cap]] w fun e w' => e = .returned (.func (.func 144) #[] #[.pointer (some ⟨w.heap.size, 0, none⟩)]) ∧ w' = w.alloc (.cells #[.slice ad n cap] 26) := by
  go_enter Tryz.func93, Tryz.ntmps93
  go_wp2
  go_ret
  exact ⟨rfl, rfl⟩

set_option maxHeartbeats 1600000 in
theorem collect_rows (Bh : Nat) {ad : Option Addr} {n : Nat} (cap : Nat) {ps : List Pg} {w : World} (hR : ReadsG w ad ps) (hl : ps.length = n) (hok : okH ps = true) (hBh : Bh < w.heap.size) (hBx : w.cell? ⟨Bh, 0, none⟩ = some (.slice ad n cap)) :
    Calls Tryz.prog 92 #[.func (.func 144) #[] #[.pointer (some ⟨Bh, 0, none⟩)]] w fun e w' => ∃ v, e = .returned v ∧ OwnRw w' w.heap.size w'.heap.size v (rowsG 0 ps) ∧ Below w.heap.size w w' := by
  have HC := hid (appendSeq_rows Bh cap hR hl hok hBh hBx)
  clear hR hl hok hBh hBx
  go_enter Tryz.func92, Tryz.ntmps92
  go_wp2_with fail
  refine HC.out.mono ?_
  rintro e w1 ⟨v, rfl, ow, b⟩
  obtain ⟨a, c, rfl⟩ := ow.slice
  have HO := hid ow
  have HB := hid b
  clear ow b HC
  go_wp2_with fail
  go_ret
  exact ⟨_, rfl, HO.out, HB.out⟩

set_option maxHeartbeats 3200000 in
theorem impl_HeapRows {ad : Option Addr} {n : Nat} (cap : Nat) {ps : List Pg} {w : World} (h : ReadsG w ad ps) (hl : ps.length = n) :
    Calls Tryz.prog 29 #[.agg #[.slice ad n cap]] w fun e w' => ∃ v, e = .returned v ∧ OwnRw w' w.heap.size w'.heap.size v (rowsH ps) ∧ Below w.heap.size w w' := by
  have HB := hid (Below.alloc1 w (.cells #[.slice ad n cap] 26))
  have HR := hid (h.below HB.out (Nat.le_refl _))
  have C0 := hid (box1 w (.slice ad n cap) 26)
  have hbx := alloc_size w (.cells #[.slice ad n cap] 26)
  have HBX := hid (show w.heap.size < (w.alloc (.cells #[.slice ad n cap] 26)).heap.size by omega)
  clear h hbx
  have c0 := C0.out
  go_enter Tryz.func29, Tryz.ntmps29
  go_wp2_with fail
  refine (impl_HeapOk cap HR.out hl).mono ?_
  rintro e W ⟨rfl, b⟩
  have hc0 := (b.cell (p := ⟨w.heap.size, 0, none⟩) HBX.out).trans C0.out
  replace HR := hid (HR.out.below b (Nat.le_refl _))
  replace HB := hid (HB.out.trans (b.mono HB.out.size))
  clear b C0 HBX c0
  cases hok : okH ps with
  | false =>
    go_wp2_with fail
    go_ret
    have e0 : rowsH ps = [] := by unfold rowsH; rw [hok]; rfl
    rw [e0]
    exact ⟨_, rfl, OwnRw.nil _ _ _, HB.out⟩
  | true =>
    have HE := hid (show rowsH ps = rowsG 0 ps by unfold rowsH; rw [if_pos hok])
    have HO := hid hok
    clear hok
    go_wp2_with fail
    refine (rows_make ad n cap _).mono ?_
    rintro e w1 ⟨rfl, rfl⟩
    have b1 := Below.alloc1 W (.cells #[.slice ad n cap] 26)
    have z1 := alloc_size W (.cells #[.slice ad n cap] 26)
    have HC := hid (collect_rows W.heap.size cap (HR.out.below b1 (Nat.le_refl _)) hl HO.out (by omega) (box1 W (.slice ad n cap) 26))
    have HB1 := hid (HB.out.trans (b1.mono HB.out.size))
    clear b1 z1 hc0
    go_wp2_with fail
    refine HC.out.mono ?_
    rintro e w2 ⟨v, rfl, ow, b⟩
    obtain ⟨a, c, rfl⟩ := ow.slice
    have HOW := hid (ow.mono (lo' := w.heap.size) HB1.out.size (Nat.le_refl _))
    have HB2 := hid (HB1.out.trans (b.mono HB1.out.size))
    clear ow b HC
    go_wp2_with fail
    go_ret
    rw [HE.out]
    exact ⟨_, rfl, HOW.out, HB2.out⟩
end Go.Proofs.YtebhipicfgnajaaGreat
