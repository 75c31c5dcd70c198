/- Texts of this proof in one: Ug11 Uk11. -/
import Derived.Test.YtlkoghdajpbffaaGreatUf11
import Derived.Test.YtlkoghdajpbffaaGreatMgu
/- A step takes an entry, and a kid behind it. Conditions: at most four entries before. -/

namespace Go.Proofs.YtlkoghdajpbffaaGreat
open Go.RowKit
set_option maxRecDepth 100000
structure TkB (W : World) (p0 p1 g : Nat) (i : Nat) (e : En) (ax : Option Addr) (nx cx : Nat) : Prop where
 a0 : W.cell? ⟨p0, 0, none⟩ = some (.pointer (some ⟨g, 0, none⟩))
 a1 : W.cell? ⟨p0, 1, none⟩ = some (.int .i64 i)
 b0 : W.cell? ⟨p1, 0, none⟩ = some (.int .i64 e.K)
 b1 : W.cell? ⟨p1, 1, none⟩ = some (.int .i64 e.N)
 b2 : W.cell? ⟨p1, 2, none⟩ = some (.float .f64 e.F)
 b3 : W.cell? ⟨p1, 3, none⟩ = some (.slice ax nx cx)
 b4 : W.cell? ⟨p1, 4, none⟩ = some (.int .i64 e.id)
theorem TkB.of {W : World} {p0 p1 g i : Nat} {e : En} {ax : Option Addr} {nx cx : Nat} (h0 : W.heap[p0]? = some (.cells #[.pointer (some ⟨g, 0, none⟩), .int .i64 i] 72)) (h1 : W.heap[p1]? = some (.cells #[.int .i64 e.K, .int .i64 e.N, .float .f64 e.F, .slice ax nx cx, .int .i64 e.id] 48)) : TkB W p0 p1 g i e ax nx cx :=
 ⟨qC h0, qC h0, qC h1, qC h1, qC h1, qC h1, qC h1⟩
set_option maxHeartbeats 12800000 in
theorem impl_take_leaf {g : Nat} {x : Int} {es : List En} {xs : List Value} {a : Option Addr} {n c i : Nat} {e : En} {ax : Option Addr} {nx cx : Nat} {kv kid : Value} {w : World} (hg : w.heap[g]? = some (.cells #[.int .i64 x, .bool true, .slice a n c, kv] 112)) (hp : Pt w 5 a n c (cellsE es xs)) (ha : a = none ∨ ∃ b off, a = some ⟨b, off, none⟩) (hx : xs.length = es.length) (hn : es.length = n) (hn4 : n ≤ 4) (hk : i ≤ n) (hc : n ≤ c ∧ c ≤ maxLen) (h1 : ∀ u ∈ cellsE es xs, u.oneCell' = true) (he : ∀ u ∈ cellsE1 e (.slice ax nx cx), u.oneCell' = true) :
 Calls Tryz.prog 58 #[.agg #[.pointer (some ⟨g, 0, none⟩), .int .i64 i], .agg #[.int .i64 e.K, .int .i64 e.N, .float .f64 e.F, .slice ax nx cx, .int .i64 e.id], kid] w fun r w' => r = .returned (.tuple #[]) ∧ ∃ a' c', w'.heap[g]? = some (.cells #[.int .i64 x, .bool true, (.slice a' (n + 1) c'), kv] 112) ∧ w'.ownsRow w.heap.size 48 5 (.slice a' (n + 1) c') (n + 1) (cellsE (putL es i e) (putL xs i (.slice ax nx cx))) ∧ Kept (fun b => b = g) w w' := by
 have hst := fun w a m => run_store Tryz.prog w a (.float .f64 e.F) m rfl
 have HG := hid hg
 have HP := hid hp
 have HGl := hid (qL hg)
 obtain ⟨HR0', HR1', HZ'⟩ := two_rows11 w (.cells #[.pointer (some ⟨g, 0, none⟩), .int .i64 i] 72) (.cells #[.int .i64 e.K, .int .i64 e.N, .float .f64 e.F, .slice ax nx cx, .int .i64 e.id] 48)
 have HR0 := hid HR0'
 have HR1 := hid HR1'
 have HZ := hid HZ'
 have HBB := hid (two w (.cells #[.pointer (some ⟨g, 0, none⟩), .int .i64 i] 72) (.cells #[.int .i64 e.K, .int .i64 e.N, .float .f64 e.F, .slice ax nx cx, .int .i64 e.id] 48))
 clear hg hp HR0' HR1' HZ'
 go_enter Tryz.func58, Tryz.ntmps58
 go_upto_region 1 with fail
 generalize (w.alloc (.cells #[.pointer (some ⟨g, 0, none⟩), .int .i64 i] 72)).alloc (.cells #[.int .i64 e.K, .int .i64 e.N, .float .f64 e.F, .slice ax nx cx, .int .i64 e.id] 48) = u at *
 obtain ⟨p0, hp0⟩ : ∃ p0, w.heap.size = p0 := ⟨_, rfl⟩
 obtain ⟨p1, hp1⟩ : ∃ p1, w.heap.size + 1 = p1 := ⟨_, rfl⟩
 have HPe := hid (And.intro hp0 hp1)
 rw [hp1] at HR1
 rw [hp0] at HR0
 try simp only [hp1]
 try simp only [hp0]
 clear hp0 hp1
 have HGu := hid ((HBB.out.block g HGl.out).trans HG.out)
 have HKp := hid (show ∀ W, Below u.heap.size u W → TkB W p0 p1 g i e ax nx cx ∧ W.cell? ⟨g, 2, none⟩ = some (.slice a n c) from fun W bb => by
  have r0 := (bb.block p0 (qL HR0.out)).trans HR0.out
  have r1 := (bb.block p1 (qL HR1.out)).trans HR1.out
  have rg := (bb.block g (qL HGu.out)).trans HGu.out
  exact ⟨TkB.of r0 r1, qC rg⟩)
 have BC := hid ((Still.drew u).below u.heap.size)
 refine region_U 13 (fun W => TkB W p0 p1 g i e ax nx cx ∧ W.cell? ⟨g, 2, none⟩ = some (.slice a n c)) (by kernel_rfl) (HKp.out _ BC.out) (fun hh => ?_)
 generalize u.drew = vd at *
 refine anyU_take (i := 0) (v := ?vq1) rfl (by kernel_rfl) (by kernel_rfl) (by kernel_rfl) (by rfl) (fun _ _ _ h => h) (by rfl) (.inr hh) ?hq1 (some 6) (by rfl) ?rq1
 case hq1 => (intro W; go_simp; (try with_reducible rfl))
 try simp only [qP]
 refine anyU_take (i := 2) (v := ?vq2) rfl (by kernel_rfl) (by kernel_rfl) (by kernel_rfl) (by rfl) (fun _ _ _ h => h) (by rfl) (.inr hh) ?hq2 (some 8) (by rfl) ?rq2
 case hq2 => (intro W; go_simp; (try with_reducible rfl))
 try simp only [qP]
 refine anyU_take (i := 7) (v := ?vq3) rfl (by kernel_rfl) (by kernel_rfl) (by kernel_rfl) (by rfl) (fun _ _ _ h => h) (by rfl) (.inr hh) ?hq3 (some 13) (by rfl) ?rq3
 case hq3 => (intro W; go_simp; (try with_reducible rfl))
 try simp only [qP]
 refine anyU_read (i := 1) (v := ?vq4) rfl (by kernel_rfl) (by kernel_rfl) (by kernel_rfl) (by kernel_rfl) (by rfl) (fun _ _ _ h => h) (by rfl) hh ?hq4 (some 7) (by rfl) ?rq4
 case hq4 => (intro W hSw; obtain ⟨⟨x0, x1, y0, y1, y2, y3, y4⟩, x2⟩ := hSw; go_simp; (try with_reducible rfl))
 try simp only [qP]
 refine anyU_read (i := 3) (v := ?vq5) rfl (by kernel_rfl) (by kernel_rfl) (by kernel_rfl) (by kernel_rfl) (by rfl) (fun _ _ _ h => h) (by rfl) hh ?hq5 (some 9) (by rfl) ?rq5
 case hq5 => (intro W hSw; obtain ⟨⟨x0, x1, y0, y1, y2, y3, y4⟩, x2⟩ := hSw; go_simp; (try with_reducible rfl))
 try simp only [qP]
 refine anyU_take (i := 4) (v := ?vq6) rfl (by kernel_rfl) (by kernel_rfl) (by kernel_rfl) (by rfl) (fun _ _ _ h => h) (by rfl) (.inr hh) ?hq6 (some 10) (by rfl) ?rq6
 case hq6 => (intro W; go_simp; (try with_reducible rfl))
 try simp only [qP]
 refine anyU_take (i := 5) (v := ?vq7) rfl (by kernel_rfl) (by kernel_rfl) (by kernel_rfl) (by rfl) (fun _ _ _ h => h) (by rfl) (.inr hh) ?hq7 (some 11) (by rfl) ?rq7
 case hq7 => (intro W; go_simp; (try with_reducible rfl))
 try simp only [qP]
 refine anyU_read (i := 6) (v := ?vq8) rfl (by kernel_rfl) (by kernel_rfl) (by kernel_rfl) (by kernel_rfl) (by rfl) (fun _ _ _ h => h) (by rfl) hh ?hq8 (some 12) (by rfl) ?rq8
 case hq8 => (intro W hSw; obtain ⟨⟨x0, x1, y0, y1, y2, y3, y4⟩, x2⟩ := hSw; go_simp; (try with_reducible rfl))
 try simp only [qP]
 refine anyU_read (i := 8) (v := ?vq9) rfl (by kernel_rfl) (by kernel_rfl) (by kernel_rfl) (by kernel_rfl) (by rfl) (fun _ _ _ h => h) (by rfl) hh ?hq9 (some 14) (by rfl) ?rq9
 case hq9 => (intro W hSw; obtain ⟨⟨x0, x1, y0, y1, y2, y3, y4⟩, x2⟩ := hSw; go_simp; (try with_reducible rfl))
 try simp only [qP]
 refine anyU_read (i := 9) (v := ?vq10) rfl (by kernel_rfl) (by kernel_rfl) (by kernel_rfl) (by kernel_rfl) (by rfl) (fun _ _ _ h => h) (by rfl) hh ?hq10 (some 15) (by rfl) ?rq10
 case hq10 => (intro W hSw; obtain ⟨⟨x0, x1, y0, y1, y2, y3, y4⟩, x2⟩ := hSw; go_simp; (try with_reducible rfl))
 try simp only [qP]
 refine anyU_step (i := 10) (by kernel_rfl) rfl (by rfl) (fun KP hK => ?_)
 go_simp
 have BW := hid (HBB.out.trans (BC.out.mono HBB.out.size))
 refine (impl_with_E (HP.out.below BW.out) ha hx hn hn4 hk hc h1 he ⟨_, _, _, rfl⟩).mono ?_
 rintro r v1 ⟨a', c', rfl, o1, b1⟩
 have HO := hid o1
 have BD := hid (BC.out.trans (b1.mono BC.out.size))
 have HLo := hid (show w.heap.size ≤ vd.heap.size from BW.out.size)
 clear o1 b1 hh
 go_wp2_with fail
 refine hK.out _ _ (HKp.out _ BD.out) (fun hh => ?_)
 clear hK KP
 try simp only [qP]
 refine anyU_take (i := 11) (v := ?vq11) rfl (by kernel_rfl) (by kernel_rfl) (by kernel_rfl) (by rfl) (fun _ _ _ h => h) (by rfl) (.inr hh) ?hq11 (some 17) (by rfl) ?rq11
 case hq11 => (intro W; go_simp; (try with_reducible rfl))
 try simp only [qP]
 refine anyU_take (i := 12) (v := ?vq12) rfl (by kernel_rfl) (by kernel_rfl) (by kernel_rfl) (by rfl) (fun _ _ _ h => h) (by rfl) (.inr hh) ?hq12 (some 18) (by rfl) ?rq12
 case hq12 => (intro W; go_simp; (try with_reducible rfl))
 try simp only [qP]
 have HG1 := hid ((BD.out.block g (qL HGu.out)).trans HGu.out)
 have HB1 := hid (HBB.out.trans (BD.out.mono HBB.out.size))
 have n2 : v1.cell? ⟨g, 2, none⟩ = some (.slice a n c) := qC HG1.out
 have f2 : v1.frozen? ⟨g, 2, none⟩ = false := frozen_of_row _ _ 2 _ _ HG1.out
 refine anyU_last (by kernel_rfl) rfl (fun KP hK => ?_)
 go_simp
 refine hK.out _ _ ?_
 clear hK KP hh n2 f2
 try simp only [qP]
 refine anyU_done (by kernel_rfl) ?_ _
 have HG2 := hid (show (v1.setCell ⟨g, 2, none⟩ (.slice a' (n + 1) c')).heap[g]? = some (.cells #[.int .i64 x, .bool true, (.slice a' (n + 1) c'), kv] 112) by rw [heap_setCell_same _ _ _ _ _ _ HG1.out]; rfl)
 have HK2 := hid ((Kept.of_below (X := fun b => b = g) HB1.out).trans (Kept.set (X := fun b => b = g) v1 (p := ⟨g, 2, none⟩) rfl (.slice a' (n + 1) c')) (fun _ _ h => h))
 have HO2 := hid (owns_other (j := 2) HO.out HG1.out (by decide) (.slice a' (n + 1) c'))
 have hne0 : p0 ≠ g := by have := HPe.out; have := HGl.out; omega
 have hne1 : p1 ≠ g := by have := HPe.out; have := HGl.out; omega
 have HR02 := hid ((heap_set_ne v1 g 2 p0 (.slice a' (n + 1) c') hne0).trans ((BD.out.block p0 (qL HR0.out)).trans HR0.out))
 have HR12 := hid ((heap_set_ne v1 g 2 p1 (.slice a' (n + 1) c') hne1).trans ((BD.out.block p1 (qL HR1.out)).trans HR1.out))
 clear hne0 hne1
 generalize v1.setCell ⟨g, 2, none⟩ (.slice a' (n + 1) c') = v2 at *
 have c0 : v2.cell? ⟨p0, 0, none⟩ = some (.pointer (some ⟨g, 0, none⟩)) := qC HR02.out
 have c1 : v2.cell? ⟨g, 1, none⟩ = some (.bool true) := qC HG2.out
 go_wp2_with fail
 exact bodyPost_end (results_none Tryz.results58 _ _ _) rfl ⟨rfl, a', c', HG2.out, owns_lower HO2.out HLo.out, HK2.out⟩
set_option maxHeartbeats 12800000 in
theorem impl_take_inner {g : Nat} {x : Int} {es : List En} {xs : List Value} {a : Option Addr} {n c i : Nat} {e : En} {ax : Option Addr} {nx cx : Nat} {kb ko nk ck gk : Nat} {Lk : List Value} {w : World} (hg : w.heap[g]? = some (.cells #[.int .i64 x, .bool false, .slice a n c, .slice (some ⟨kb, ko, none⟩) nk ck] 112)) (hp : Pt w 5 a n c (cellsE es xs)) (ha : a = none ∨ ∃ b off, a = some ⟨b, off, none⟩) (hx : xs.length = es.length) (hn : es.length = n) (hn4 : n ≤ 4) (hk : i ≤ n) (hc : n ≤ c ∧ c ≤ maxLen) (h1 : ∀ u ∈ cellsE es xs, u.oneCell' = true) (he : ∀ u ∈ cellsE1 e (.slice ax nx cx), u.oneCell' = true) (hpk : Pt w 1 (some ⟨kb, ko, none⟩) nk ck Lk) (hnk : nk ≤ 5) (hik : i + 1 ≤ nk) (hck : nk ≤ ck ∧ ck ≤ maxLen) (h1k : ∀ u ∈ Lk, u.oneCell' = true) (hkg : kb ≠ g) :
 Calls Tryz.prog 58 #[.agg #[.pointer (some ⟨g, 0, none⟩), .int .i64 i], .agg #[.int .i64 e.K, .int .i64 e.N, .float .f64 e.F, .slice ax nx cx, .int .i64 e.id], .pointer (some ⟨gk, 0, none⟩)] w fun r w' => r = .returned (.tuple #[]) ∧ ∃ a' c' a2 c2, w'.heap[g]? = some (.cells #[.int .i64 x, .bool false, (.slice a' (n + 1) c'), .slice a2 (nk + 1) c2] 112) ∧ w'.ownsRow w.heap.size 48 5 (.slice a' (n + 1) c') (n + 1) (cellsE (putL es i e) (putL xs i (.slice ax nx cx))) ∧ w'.ownsRow w.heap.size 70 1 (.slice a2 (nk + 1) c2) (nk + 1) (putL Lk (i + 1) (.pointer (some ⟨gk, 0, none⟩))) ∧ Kept (fun b => b = g) w w' := by
 have hst := fun w a m => run_store Tryz.prog w a (.float .f64 e.F) m rfl
 have HG := hid hg
 have HP := hid hp
 have HGl := hid (qL hg)
 obtain ⟨HR0', HR1', HZ'⟩ := two_rows11 w (.cells #[.pointer (some ⟨g, 0, none⟩), .int .i64 i] 72) (.cells #[.int .i64 e.K, .int .i64 e.N, .float .f64 e.F, .slice ax nx cx, .int .i64 e.id] 48)
 have HR0 := hid HR0'
 have HR1 := hid HR1'
 have HZ := hid HZ'
 have HBB := hid (two w (.cells #[.pointer (some ⟨g, 0, none⟩), .int .i64 i] 72) (.cells #[.int .i64 e.K, .int .i64 e.N, .float .f64 e.F, .slice ax nx cx, .int .i64 e.id] 48))
 have HPk := hid hpk
 have HKg := hid hkg
 have HH1k := hid h1k
 have hwr : IntKind.i64.wrap ((i : Int) + 1) = ((i + 1 : Nat) : Int) := by simp [IntKind.wrap, IntKind.bits, IntKind.signed]; omega
 have HWr := hid hwr
 clear hg hp HR0' HR1' HZ' hpk h1k hwr hkg
 go_enter Tryz.func58, Tryz.ntmps58
 go_upto_region 1 with fail
 generalize (w.alloc (.cells #[.pointer (some ⟨g, 0, none⟩), .int .i64 i] 72)).alloc (.cells #[.int .i64 e.K, .int .i64 e.N, .float .f64 e.F, .slice ax nx cx, .int .i64 e.id] 48) = u at *
 obtain ⟨p0, hp0⟩ : ∃ p0, w.heap.size = p0 := ⟨_, rfl⟩
 obtain ⟨p1, hp1⟩ : ∃ p1, w.heap.size + 1 = p1 := ⟨_, rfl⟩
 have HPe := hid (And.intro hp0 hp1)
 rw [hp1] at HR1
 rw [hp0] at HR0
 try simp only [hp1]
 try simp only [hp0]
 clear hp0 hp1
 have HGu := hid ((HBB.out.block g HGl.out).trans HG.out)
 have HKp := hid (show ∀ W, Below u.heap.size u W → TkB W p0 p1 g i e ax nx cx ∧ W.cell? ⟨g, 2, none⟩ = some (.slice a n c) from fun W bb => by
  have r0 := (bb.block p0 (qL HR0.out)).trans HR0.out
  have r1 := (bb.block p1 (qL HR1.out)).trans HR1.out
  have rg := (bb.block g (qL HGu.out)).trans HGu.out
  exact ⟨TkB.of r0 r1, qC rg⟩)
 have BC := hid ((Still.drew u).below u.heap.size)
 refine region_U 13 (fun W => TkB W p0 p1 g i e ax nx cx ∧ W.cell? ⟨g, 2, none⟩ = some (.slice a n c)) (by kernel_rfl) (HKp.out _ BC.out) (fun hh => ?_)
 generalize u.drew = vd at *
 refine anyU_take (i := 0) (v := ?vq13) rfl (by kernel_rfl) (by kernel_rfl) (by kernel_rfl) (by rfl) (fun _ _ _ h => h) (by rfl) (.inr hh) ?hq13 (some 6) (by rfl) ?rq13
 case hq13 => (intro W; go_simp; (try with_reducible rfl))
 try simp only [qP]
 refine anyU_take (i := 2) (v := ?vq14) rfl (by kernel_rfl) (by kernel_rfl) (by kernel_rfl) (by rfl) (fun _ _ _ h => h) (by rfl) (.inr hh) ?hq14 (some 8) (by rfl) ?rq14
 case hq14 => (intro W; go_simp; (try with_reducible rfl))
 try simp only [qP]
 refine anyU_take (i := 7) (v := ?vq15) rfl (by kernel_rfl) (by kernel_rfl) (by kernel_rfl) (by rfl) (fun _ _ _ h => h) (by rfl) (.inr hh) ?hq15 (some 13) (by rfl) ?rq15
 case hq15 => (intro W; go_simp; (try with_reducible rfl))
 try simp only [qP]
 refine anyU_read (i := 1) (v := ?vq16) rfl (by kernel_rfl) (by kernel_rfl) (by kernel_rfl) (by kernel_rfl) (by rfl) (fun _ _ _ h => h) (by rfl) hh ?hq16 (some 7) (by rfl) ?rq16
 case hq16 => (intro W hSw; obtain ⟨⟨x0, x1, y0, y1, y2, y3, y4⟩, x2⟩ := hSw; go_simp; (try with_reducible rfl))
 try simp only [qP]
 refine anyU_read (i := 3) (v := ?vq17) rfl (by kernel_rfl) (by kernel_rfl) (by kernel_rfl) (by kernel_rfl) (by rfl) (fun _ _ _ h => h) (by rfl) hh ?hq17 (some 9) (by rfl) ?rq17
 case hq17 => (intro W hSw; obtain ⟨⟨x0, x1, y0, y1, y2, y3, y4⟩, x2⟩ := hSw; go_simp; (try with_reducible rfl))
 try simp only [qP]
 refine anyU_take (i := 4) (v := ?vq18) rfl (by kernel_rfl) (by kernel_rfl) (by kernel_rfl) (by rfl) (fun _ _ _ h => h) (by rfl) (.inr hh) ?hq18 (some 10) (by rfl) ?rq18
 case hq18 => (intro W; go_simp; (try with_reducible rfl))
 try simp only [qP]
 refine anyU_take (i := 5) (v := ?vq19) rfl (by kernel_rfl) (by kernel_rfl) (by kernel_rfl) (by rfl) (fun _ _ _ h => h) (by rfl) (.inr hh) ?hq19 (some 11) (by rfl) ?rq19
 case hq19 => (intro W; go_simp; (try with_reducible rfl))
 try simp only [qP]
 refine anyU_read (i := 6) (v := ?vq20) rfl (by kernel_rfl) (by kernel_rfl) (by kernel_rfl) (by kernel_rfl) (by rfl) (fun _ _ _ h => h) (by rfl) hh ?hq20 (some 12) (by rfl) ?rq20
 case hq20 => (intro W hSw; obtain ⟨⟨x0, x1, y0, y1, y2, y3, y4⟩, x2⟩ := hSw; go_simp; (try with_reducible rfl))
 try simp only [qP]
 refine anyU_read (i := 8) (v := ?vq21) rfl (by kernel_rfl) (by kernel_rfl) (by kernel_rfl) (by kernel_rfl) (by rfl) (fun _ _ _ h => h) (by rfl) hh ?hq21 (some 14) (by rfl) ?rq21
 case hq21 => (intro W hSw; obtain ⟨⟨x0, x1, y0, y1, y2, y3, y4⟩, x2⟩ := hSw; go_simp; (try with_reducible rfl))
 try simp only [qP]
 refine anyU_read (i := 9) (v := ?vq22) rfl (by kernel_rfl) (by kernel_rfl) (by kernel_rfl) (by kernel_rfl) (by rfl) (fun _ _ _ h => h) (by rfl) hh ?hq22 (some 15) (by rfl) ?rq22
 case hq22 => (intro W hSw; obtain ⟨⟨x0, x1, y0, y1, y2, y3, y4⟩, x2⟩ := hSw; go_simp; (try with_reducible rfl))
 try simp only [qP]
 refine anyU_step (i := 10) (by kernel_rfl) rfl (by rfl) (fun KP hK => ?_)
 go_simp
 have BW := hid (HBB.out.trans (BC.out.mono HBB.out.size))
 refine (impl_with_E (HP.out.below BW.out) ha hx hn hn4 hk hc h1 he ⟨_, _, _, rfl⟩).mono ?_
 rintro r v1 ⟨a', c', rfl, o1, b1⟩
 have HO := hid o1
 have BD := hid (BC.out.trans (b1.mono BC.out.size))
 have HLo := hid (show w.heap.size ≤ vd.heap.size from BW.out.size)
 clear o1 b1 hh
 go_wp2_with fail
 refine hK.out _ _ (HKp.out _ BD.out) (fun hh => ?_)
 clear hK KP
 try simp only [qP]
 refine anyU_take (i := 11) (v := ?vq23) rfl (by kernel_rfl) (by kernel_rfl) (by kernel_rfl) (by rfl) (fun _ _ _ h => h) (by rfl) (.inr hh) ?hq23 (some 17) (by rfl) ?rq23
 case hq23 => (intro W; go_simp; (try with_reducible rfl))
 try simp only [qP]
 refine anyU_take (i := 12) (v := ?vq24) rfl (by kernel_rfl) (by kernel_rfl) (by kernel_rfl) (by rfl) (fun _ _ _ h => h) (by rfl) (.inr hh) ?hq24 (some 18) (by rfl) ?rq24
 case hq24 => (intro W; go_simp; (try with_reducible rfl))
 try simp only [qP]
 have HG1 := hid ((BD.out.block g (qL HGu.out)).trans HGu.out)
 have HB1 := hid (HBB.out.trans (BD.out.mono HBB.out.size))
 have n2 : v1.cell? ⟨g, 2, none⟩ = some (.slice a n c) := qC HG1.out
 have f2 : v1.frozen? ⟨g, 2, none⟩ = false := frozen_of_row _ _ 2 _ _ HG1.out
 refine anyU_last (by kernel_rfl) rfl (fun KP hK => ?_)
 go_simp
 refine hK.out _ _ ?_
 clear hK KP hh n2 f2
 try simp only [qP]
 refine anyU_done (by kernel_rfl) ?_ _
 have HG2 := hid (show (v1.setCell ⟨g, 2, none⟩ (.slice a' (n + 1) c')).heap[g]? = some (.cells #[.int .i64 x, .bool false, (.slice a' (n + 1) c'), .slice (some ⟨kb, ko, none⟩) nk ck] 112) by rw [heap_setCell_same _ _ _ _ _ _ HG1.out]; rfl)
 have HK2 := hid ((Kept.of_below (X := fun b => b = g) HB1.out).trans (Kept.set (X := fun b => b = g) v1 (p := ⟨g, 2, none⟩) rfl (.slice a' (n + 1) c')) (fun _ _ h => h))
 have HO2 := hid (owns_other (j := 2) HO.out HG1.out (by decide) (.slice a' (n + 1) c'))
 have hne0 : p0 ≠ g := by have := HPe.out; have := HGl.out; omega
 have hne1 : p1 ≠ g := by have := HPe.out; have := HGl.out; omega
 have HR02 := hid ((heap_set_ne v1 g 2 p0 (.slice a' (n + 1) c') hne0).trans ((BD.out.block p0 (qL HR0.out)).trans HR0.out))
 have HR12 := hid ((heap_set_ne v1 g 2 p1 (.slice a' (n + 1) c') hne1).trans ((BD.out.block p1 (qL HR1.out)).trans HR1.out))
 clear hne0 hne1
 generalize v1.setCell ⟨g, 2, none⟩ (.slice a' (n + 1) c') = v2 at *
 have c0 : v2.cell? ⟨p0, 0, none⟩ = some (.pointer (some ⟨g, 0, none⟩)) := qC HR02.out
 have c1 : v2.cell? ⟨g, 1, none⟩ = some (.bool false) := qC HG2.out
 go_upto_region 3 with fail
 clear c0 c1
 have HPk2 := hid (show Pt v2 1 (some ⟨kb, ko, none⟩) nk ck Lk from by
  obtain ⟨q1, q2, q3⟩ := HPk.out
  rcases q2 with ⟨q4, _⟩ | ⟨pp, q4, q5⟩
  · cases q4
  · cases q4
    refine ⟨q1, .inr ⟨_, rfl, fun j u hu => ?_⟩, fun z => by cases z⟩
    have hcell := q5 j u hu
    have hlt := World.block_lt_of_cell? w _ hcell
    rw [Addr.add_lit] at hcell hlt ⊢
    have hne : kb ≠ g := HKg.out
    exact (World.cell?_of_block (w := w) (w' := v2) (a := ⟨kb, ko + j, none⟩) (HK2.out.block kb hlt hne)).trans hcell)
 have HKq := hid (show ∀ W, Below v2.heap.size v2 W → TkB W p0 p1 g i e ax nx cx ∧ W.cell? ⟨g, 3, none⟩ = some (.slice (some ⟨kb, ko, none⟩) nk ck) from fun W bb => by
  have r0 := (bb.block p0 (qL HR02.out)).trans HR02.out
  have r1 := (bb.block p1 (qL HR12.out)).trans HR12.out
  have rg := (bb.block g (qL HG2.out)).trans HG2.out
  exact ⟨TkB.of r0 r1, qC rg⟩)
 have BE := hid ((Still.drew v2).below v2.heap.size)
 refine region_U 14 (fun W => TkB W p0 p1 g i e ax nx cx ∧ W.cell? ⟨g, 3, none⟩ = some (.slice (some ⟨kb, ko, none⟩) nk ck)) (by kernel_rfl) (HKq.out _ BE.out) (fun hh => ?_)
 generalize v2.drew = ve at *
 refine anyU_take (i := 0) (v := ?vq25) rfl (by kernel_rfl) (by kernel_rfl) (by kernel_rfl) (by rfl) (fun _ _ _ h => h) (by rfl) (.inr hh) ?hq25 (some 25) (by rfl) ?rq25
 case hq25 => (intro W; go_simp; (try with_reducible rfl))
 try simp only [qP]
 refine anyU_take (i := 2) (v := ?vq26) rfl (by kernel_rfl) (by kernel_rfl) (by kernel_rfl) (by rfl) (fun _ _ _ h => h) (by rfl) (.inr hh) ?hq26 (some 27) (by rfl) ?rq26
 case hq26 => (intro W; go_simp; (try with_reducible rfl))
 try simp only [qP]
 refine anyU_take (i := 7) (v := ?vq27) rfl (by kernel_rfl) (by kernel_rfl) (by kernel_rfl) (by rfl) (fun _ _ _ h => h) (by rfl) (.inr hh) ?hq27 (some 32) (by rfl) ?rq27
 case hq27 => (intro W; go_simp; (try with_reducible rfl))
 try simp only [qP]
 refine anyU_read (i := 1) (v := ?vq28) rfl (by kernel_rfl) (by kernel_rfl) (by kernel_rfl) (by kernel_rfl) (by rfl) (fun _ _ _ h => h) (by rfl) hh ?hq28 (some 26) (by rfl) ?rq28
 case hq28 => (intro W hSw; obtain ⟨⟨x0, x1, y0, y1, y2, y3, y4⟩, x2⟩ := hSw; go_simp; (try with_reducible rfl))
 try simp only [qP]
 refine anyU_read (i := 3) (v := ?vq29) rfl (by kernel_rfl) (by kernel_rfl) (by kernel_rfl) (by kernel_rfl) (by rfl) (fun _ _ _ h => h) (by rfl) hh ?hq29 (some 28) (by rfl) ?rq29
 case hq29 => (intro W hSw; obtain ⟨⟨x0, x1, y0, y1, y2, y3, y4⟩, x2⟩ := hSw; go_simp; (try with_reducible rfl))
 try simp only [qP]
 refine anyU_take (i := 4) (v := ?vq30) rfl (by kernel_rfl) (by kernel_rfl) (by kernel_rfl) (by rfl) (fun _ _ _ h => h) (by rfl) (.inr hh) ?hq30 (some 29) (by rfl) ?rq30
 case hq30 => (intro W; go_simp; (try with_reducible rfl))
 try simp only [qP]
 refine anyU_take (i := 5) (v := ?vq31) rfl (by kernel_rfl) (by kernel_rfl) (by kernel_rfl) (by rfl) (fun _ _ _ h => h) (by rfl) (.inr hh) ?hq31 (some 30) (by rfl) ?rq31
 case hq31 => (intro W; go_simp; (try with_reducible rfl))
 try simp only [qP]
 refine anyU_read (i := 6) (v := ?vq32) rfl (by kernel_rfl) (by kernel_rfl) (by kernel_rfl) (by kernel_rfl) (by rfl) (fun _ _ _ h => h) (by rfl) hh ?hq32 (some 31) (by rfl) ?rq32
 case hq32 => (intro W hSw; obtain ⟨⟨x0, x1, y0, y1, y2, y3, y4⟩, x2⟩ := hSw; go_simp; (try with_reducible rfl))
 try simp only [qP]
 refine anyU_read (i := 8) (v := ?vq33) rfl (by kernel_rfl) (by kernel_rfl) (by kernel_rfl) (by kernel_rfl) (by rfl) (fun _ _ _ h => h) (by rfl) hh ?hq33 (some 33) (by rfl) ?rq33
 case hq33 => (intro W hSw; obtain ⟨⟨x0, x1, y0, y1, y2, y3, y4⟩, x2⟩ := hSw; go_simp; (try with_reducible rfl))
 try simp only [qP]
 refine anyU_take (i := 9) (v := .int .i64 ((i + 1 : Nat) : Int)) rfl (by kernel_rfl) (by kernel_rfl) (by kernel_rfl) (by rfl) (fun _ _ _ h => h) (by rfl) (.inr hh) ?hq34 (some 34) (by rfl) ?rq34
 case hq34 => (intro W; go_simp; (rw [HWr.out]; omega))
 try simp only [qP]
 refine anyU_take (i := 10) (v := ?vq35) rfl (by kernel_rfl) (by kernel_rfl) (by kernel_rfl) (by rfl) (fun _ _ _ h => h) (by rfl) (.inr hh) ?hq35 (some 35) (by rfl) ?rq35
 case hq35 => (intro W; go_simp; (try with_reducible rfl))
 try simp only [qP]
 refine anyU_step (i := 11) (by kernel_rfl) rfl (by rfl) (fun KP hK => ?_)
 go_simp
 refine (impl_with_P (HPk2.out.below BE.out) hnk hik hck HH1k.out).mono ?_
 rintro r v3 ⟨a2, c2, rfl, o3, b3⟩
 have HO3 := hid o3
 have BF := hid (BE.out.trans (b3.mono BE.out.size))
 have HLe := hid (show v2.heap.size ≤ ve.heap.size from BE.out.size)
 clear o3 b3 hh
 go_wp2_with fail
 refine hK.out _ _ (HKq.out _ BF.out) (fun hh => ?_)
 clear hK KP
 try simp only [qP]
 refine anyU_take (i := 12) (v := ?vq36) rfl (by kernel_rfl) (by kernel_rfl) (by kernel_rfl) (by rfl) (fun _ _ _ h => h) (by rfl) (.inr hh) ?hq36 (some 37) (by rfl) ?rq36
 case hq36 => (intro W; go_simp; (try with_reducible rfl))
 try simp only [qP]
 refine anyU_take (i := 13) (v := ?vq37) rfl (by kernel_rfl) (by kernel_rfl) (by kernel_rfl) (by rfl) (fun _ _ _ h => h) (by rfl) (.inr hh) ?hq37 (some 38) (by rfl) ?rq37
 case hq37 => (intro W; go_simp; (try with_reducible rfl))
 try simp only [qP]
 have HG3 := hid ((BF.out.block g (qL HG2.out)).trans HG2.out)
 have n3 : v3.cell? ⟨g, 3, none⟩ = some (.slice (some ⟨kb, ko, none⟩) nk ck) := qC HG3.out
 have f3 : v3.frozen? ⟨g, 3, none⟩ = false := frozen_of_row _ _ 3 _ _ HG3.out
 refine anyU_last (by kernel_rfl) rfl (fun KP hK => ?_)
 go_simp
 refine hK.out _ _ ?_
 clear hK KP hh n3 f3
 try simp only [qP]
 refine anyU_done (by kernel_rfl) ?_ _
 go_wp2_with fail
 have hlo2 := HK2.out.size
 refine bodyPost_end (results_none Tryz.results58 _ _ _) rfl ⟨rfl, a', c', a2, c2, by rw [heap_setCell_same _ _ _ _ _ _ HG3.out]; rfl, ?_, ?_, ?_⟩
 · exact owns_other (j := 3) (owns_below BF.out qN (owns_lower HO2.out HLo.out)) HG3.out (by decide) _
 · exact owns_other (j := 3) (owns_lower HO3.out (by have := HLe.out; omega)) HG3.out (by decide) _
 · exact (HK2.out.trans (Kept.of_below (X := fun _ => False) BF.out) (fun _ _ h => h.elim)).trans (Kept.set (X := fun b => b = g) v3 (p := ⟨g, 3, none⟩) rfl _) (fun _ _ h => h)
end Go.Proofs.YtlkoghdajpbffaaGreat
/- Trees, plain: the nodes of a way are apart from one another; what an entry leaves on its way up. No program, no conditions. -/

namespace Go.Proofs.YtlkoghdajpbffaaGreat
open Go.RowKit
set_option maxRecDepth 100000
section
variable {ns : List Nd}
theorem fold_keep {f : Nat} (ih : ∀ sd x sd', lnk ns f sd x = some sd' → ∀ i, sd.getD i true = true → sd'.getD i true = true) : ∀ (l : List Int) (s s' : List Bool), l.foldlM (fun s k => lnk ns f s k) s = some s' → ∀ i, s.getD i true = true → s'.getD i true = true
 | [], s, s', h, i, hi => by
  have : s = s' := by simpa using h
  exact this ▸ hi
 | k :: l, s, s', h, i, hi => by
  rw [List.foldlM_cons] at h
  cases hx : lnk ns f s k with
  | none => rw [hx] at h; cases h
  | some s1 =>
   rw [hx] at h
   exact fold_keep ih l s1 s' h i (ih s k s1 hx i hi)
theorem set_true (sd : List Bool) (j i : Nat) (h : sd.getD i true = true) : (sd.set j true).getD i true = true := by
 rw [List.getD_eq_getElem?_getD, List.getElem?_set]
 split
 · split <;> rfl
 · rw [← List.getD_eq_getElem?_getD]; exact h
theorem set_self (sd : List Bool) (j : Nat) : (sd.set j true).getD j true = true := by
 rw [List.getD_eq_getElem?_getD, List.getElem?_set]
 rw [if_pos rfl]
 split <;> rfl
theorem lnk_parts {f : Nat} {sd sd' : List Bool} {x : Int} (h : lnk ns (f + 1) sd x = some sd') : outB ns sd x = false ∧ formOk (ns.getD x.toNat nd0) = true ∧ (ns.getD x.toNat nd0).ks.foldlM (fun s k => lnk ns f s k) (sd.set x.toNat true) = some sd' := by
 unfold lnk at h
 split at h
 · cases h
 · rename_i hc
   rw [Bool.not_eq_true, Bool.or_eq_false_iff] at hc
   exact ⟨hc.1, by simpa using hc.2, h⟩
theorem lnk_keep : ∀ (f : Nat) (sd : List Bool) (x : Int) (sd' : List Bool), lnk ns f sd x = some sd' → ∀ i, sd.getD i true = true → sd'.getD i true = true
 | 0, _, _, _, h, _, _ => by cases h
 | f + 1, sd, x, sd', h, i, hi => by
  obtain ⟨_, _, h3⟩ := lnk_parts h
  exact fold_keep (lnk_keep f) _ _ _ h3 i (set_true _ _ _ hi)
theorem fold_new {f : Nat} (ih : ∀ sd x sd', lnk ns f sd x = some sd' → ∀ y ∈ posL ns f x, sd.getD y.toNat true = false) : ∀ (l : List Int) (s s' : List Bool), l.foldlM (fun s k => lnk ns f s k) s = some s' → ∀ k ∈ l, ∀ y ∈ posL ns f k, s.getD y.toNat true = false
 | [], _, _, _, k, hk, _, _ => by cases hk
 | x :: l, s, s', h, k, hk, y, hy => by
  rw [List.foldlM_cons] at h
  cases hx : lnk ns f s x with
  | none => rw [hx] at h; cases h
  | some s1 =>
   rw [hx] at h
   rcases List.mem_cons.1 hk with rfl | hk
   · exact ih s k s1 hx y hy
   · have h1 := fold_new ih l s1 s' h k hk y hy
     cases q : s.getD y.toNat true with
     | false => rfl
     | true => rw [lnk_keep f s x s1 hx _ q] at h1; cases h1
theorem lnk_new : ∀ (f : Nat) (sd : List Bool) (x : Int) (sd' : List Bool), lnk ns f sd x = some sd' → ∀ y ∈ posL ns f x, sd.getD y.toNat true = false
 | 0, _, _, _, h, _, _ => by cases h
 | f + 1, sd, x, sd', h, y, hy => by
  obtain ⟨h1, _, h3⟩ := lnk_parts h
  rcases pos_kid hy with rfl | ⟨i, hi, hy⟩
  · exact (outB_no h1).2.2
  · have := fold_new (lnk_new f) _ _ _ h3 _ (getD_mem11 hi) y hy
    cases q : sd.getD y.toNat true with
    | false => rfl
    | true => rw [set_true _ _ _ q] at this; cases this
theorem lnk_apart {f : Nat} {sd sd' : List Bool} {x : Int} (h : lnk ns (f + 1) sd x = some sd') {k : Int} (hk : k ∈ (ns.getD x.toNat nd0).ks) {y : Int} (hy : y ∈ posL ns f k) : x.toNat ≠ y.toNat := fun e => by
 obtain ⟨_, _, h3⟩ := lnk_parts h
 have := fold_new (lnk_new f) _ _ _ h3 k hk y hy
 rw [← e, set_self] at this
 cases this
theorem way_pos (e : En) : ∀ (f : Nat) (x : Int), good ns f x → ∀ p ∈ wayW ns f x e, p.1 ∈ posL ns f x
 | 0, _, h, _, _ => h.elim
 | f + 1, x, ⟨hf, h0, h1, hk⟩, p, hp => by
  rw [wayW] at hp
  rw [posL]
  rcases List.mem_cons.1 hp with rfl | hp
  · exact List.mem_cons_self
  · cases hl : (ns.getD x.toNat nd0).leaf with
    | true => rw [hl, if_pos rfl] at hp; cases hp
    | false =>
     rw [hl, if_neg (by simp)] at hp
     obtain ⟨q1, q2, q3⟩ := form_kids hf hl
     have hle := upsB_le (ns.getD x.toNat nd0).es e
     have hm := getD_mem11 (l := (ns.getD x.toNat nd0).ks) (i := upsB (ns.getD x.toNat nd0).es e) (by omega)
     exact List.mem_cons_of_mem _ (List.mem_flatten.2 ⟨_, List.mem_map.2 ⟨_, hm, rfl⟩, way_pos e f _ (hk _ hm) p hp⟩)
theorem way_apart (e : En) : ∀ (f : Nat) (sd : List Bool) (x : Int) (sd' : List Bool), lnk ns f sd x = some sd' → (wayW ns f x e).Pairwise (fun a b => a.1.toNat ≠ b.1.toNat)
 | 0, _, _, _, h => by cases h
 | f + 1, sd, x, sd', h => by
  obtain ⟨hf, h0, h1, hk⟩ := lnk_good ns _ _ _ _ h
  obtain ⟨p1, p2, p3⟩ := lnk_parts h
  rw [wayW]
  cases hl : (ns.getD x.toNat nd0).leaf with
  | true => rw [if_pos rfl]; exact List.pairwise_singleton _ _
  | false =>
   rw [if_neg (by simp)]
   obtain ⟨q1, q2, q3⟩ := form_kids hf hl
   have hle := upsB_le (ns.getD x.toNat nd0).es e
   have hm := getD_mem11 (l := (ns.getD x.toNat nd0).ks) (i := upsB (ns.getD x.toNat nd0).es e) (by omega)
   obtain ⟨s1, s2, hs⟩ := foldM_some _ _ _ p3 _ hm
   exact List.pairwise_cons.2 ⟨fun p hp => lnk_apart h hm (way_pos e f _ (hk _ hm) p hp), way_apart e f s1 _ s2 hs⟩
theorem way_steps (e : En) : ∀ (f : Nat) (x : Int), good ns f x → (∀ p ∈ wayW ns f x e, (0 ≤ p.1 ∧ p.1 < ns.length) ∧ formOk (ns.getD p.1.toNat nd0) = true ∧ p.2 = upsB (ns.getD p.1.toNat nd0).es e) ∧ ∃ pre y, wayW ns f x e = pre ++ [y] ∧ (ns.getD y.1.toNat nd0).leaf = true ∧ ∀ p ∈ pre, (ns.getD p.1.toNat nd0).leaf = false
 | 0, _, h => h.elim
 | f + 1, x, ⟨hf, h0, h1, hk⟩ => by
  rw [wayW]
  cases hl : (ns.getD x.toNat nd0).leaf with
  | true =>
   rw [if_pos rfl]
   refine ⟨fun p hp => ?_, [], (x, upsB (ns.getD x.toNat nd0).es e), rfl, hl, fun p hp => by cases hp⟩
   obtain rfl := List.mem_singleton.1 hp
   exact ⟨⟨h0, h1⟩, hf, rfl⟩
  | false =>
   rw [if_neg (by simp)]
   obtain ⟨q1, q2, q3⟩ := form_kids hf hl
   have hle := upsB_le (ns.getD x.toNat nd0).es e
   have hm := getD_mem11 (l := (ns.getD x.toNat nd0).ks) (i := upsB (ns.getD x.toNat nd0).es e) (by omega)
   obtain ⟨i1, pre, y, i2, i3, i4⟩ := way_steps e f _ (hk _ hm)
   refine ⟨fun p hp => ?_, (x, upsB (ns.getD x.toNat nd0).es e) :: pre, y, by rw [i2]; rfl, i3, fun p hp => ?_⟩
   · rcases List.mem_cons.1 hp with rfl | hp
     · exact ⟨⟨h0, h1⟩, hf, rfl⟩
     · exact i1 p hp
   · rcases List.mem_cons.1 hp with rfl | hp
     · exact hl
     · exact i4 p hp
end
structure UpI (ns : List Nd) (R : List (Int × Nat)) (j : Nat) (ns1 : List Nd) : Prop where
 lo : ns.length ≤ ns1.length
 hi : ns1.length ≤ ns.length + j
 same : ∀ i, i < ns.length → (∀ t, t < j → (R.getD t (0, 0)).1.toNat ≠ i) → ns1.getD i nd0 = ns.getD i nd0
 form : ∀ i, i < ns1.length → formOk (ns1.getD i nd0) = true
theorem UpI.start {ns : List Nd} {R : List (Int × Nat)} (h : ∀ i, i < ns.length → formOk (ns.getD i nd0) = true) : UpI ns R 0 ns := ⟨Nat.le_refl _, Nat.le_refl _, fun _ _ _ => rfl, h⟩
theorem take_form {d : Nd} (h : formOk d = true) (i : Nat) (e : En) (k : Int) : ((takeN d i e k).es.length ≤ 4 → formOk (takeN d i e k) = true) ∧ ((takeN d i e k).es.length = 5 → formOk (lowN (takeN d i e k)) = true ∧ formOk (moreN (takeN d i e k)) = true) ∧ (takeN d i e k).es.length ≤ 5 ∧ (takeN d i e k).es.length = d.es.length + 1 ∧ (takeN d i e k).leaf = d.leaf := by
 have hl : (takeN d i e k).es.length = d.es.length + 1 := putL_len _ _ _
 cases hf : d.leaf with
 | true =>
  have q := form_leaf h hf
  have hk : (takeN d i e k).ks = d.ks := by unfold takeN; rw [hf]; rfl
  have hlf : (takeN d i e k).leaf = true := hf
  refine ⟨fun h4 => ?_, fun h5 => ⟨?_, ?_⟩, by omega, hl, hlf⟩
  · unfold formOk; rw [hlf, if_pos rfl]; exact decide_eq_true ⟨h4, by rw [hk]; exact q.2⟩
  · unfold formOk lowN; rw [hlf]; simp only [if_true]; exact decide_eq_true ⟨by rw [List.length_take]; omega, by rw [hk]; exact q.2⟩
  · unfold formOk moreN; rw [hlf]; simp only [if_true]; exact decide_eq_true ⟨by rw [List.length_drop]; omega, rfl⟩
 | false =>
  have q := form_kids h hf
  have hk : (takeN d i e k).ks.length = d.ks.length + 1 := by unfold takeN; rw [hf]; exact putL_len _ _ _
  have hlf : (takeN d i e k).leaf = false := hf
  refine ⟨fun h4 => ?_, fun h5 => ⟨?_, ?_⟩, by omega, hl, hlf⟩
  · unfold formOk; rw [hlf, if_neg (by simp)]; exact decide_eq_true ⟨by omega, h4, by omega⟩
  · unfold formOk lowN; rw [hlf]; simp only [Bool.false_eq_true, if_false]; exact decide_eq_true ⟨by rw [List.length_take]; omega, by rw [List.length_take]; omega, by rw [List.length_take, List.length_take]; omega⟩
  · unfold formOk moreN; rw [hlf]; simp only [Bool.false_eq_true, if_false]; exact decide_eq_true ⟨by rw [List.length_drop]; omega, by rw [List.length_drop]; omega, by rw [List.length_drop, List.length_drop]; omega⟩
theorem getD_set11 (ns : List Nd) (x i : Nat) (d : Nd) (hx : x < ns.length) : (ns.set x d).getD i nd0 = if x = i then d else ns.getD i nd0 := by
 by_cases e : x = i
 · subst e
   rw [if_pos rfl, List.getD_eq_getElem?_getD, List.getElem?_set_self hx]
   rfl
 · rw [if_neg e, List.getD_eq_getElem?_getD, List.getElem?_set_ne e, ← List.getD_eq_getElem?_getD]
theorem getD_snoc11 (l : List Nd) (d : Nd) (i : Nat) : (l ++ [d]).getD i nd0 = if i < l.length then l.getD i nd0 else if i = l.length then d else nd0 := by
 rw [List.getD_eq_getElem?_getD, List.getElem?_append]
 split
 · rw [← List.getD_eq_getElem?_getD]
 · split
   · rename_i h; subst h; simp
   · rw [List.getElem?_eq_none (by simp; omega)]; rfl
theorem UpI.step {ns ns1 : List Nd} {R : List (Int × Nat)} {j : Nat} (h : UpI ns R j ns1) {x : Int} (hx : (R.getD j (0, 0)).1 = x) (h0 : 0 ≤ x) (h1 : x < ns.length) (i : Nat) (e : En) (k : Int) : UpI ns R (j + 1) (layN ns1 x (takeN (ns1.getD x.toNat nd0) i e k)).1 := by
 have hlt : x.toNat < ns1.length := by have := h.lo; omega
 obtain ⟨t1, t2, t3, t4, t5⟩ := take_form (h.form _ hlt) i e k
 generalize takeN (ns1.getD x.toNat nd0) i e k = d at t1 t2 t3
 have keep : ∀ (d' : Nd) i, i < ns.length → (∀ t, t < j + 1 → (R.getD t (0, 0)).1.toNat ≠ i) → (ns1.set x.toNat d').getD i nd0 = ns.getD i nd0 := fun d' i hi ht => by
  rw [getD_set11 _ _ _ _ hlt, if_neg (fun e => ht j (by omega) (by rw [hx]; exact e))]
  exact h.same i hi (fun t q => ht t (by omega))
 unfold layN
 split
 · rename_i h4
   refine ⟨by simp [h.lo], by have := h.hi; simp; omega, fun i hi ht => keep d i hi ht, fun i hi => ?_⟩
   rw [getD_set11 _ _ _ _ hlt]
   split
   · exact t1 h4
   · exact h.form i (by simpa using hi)
 · rename_i h4
   have h5 := t2 (by omega)
   refine ⟨by simp; have := h.lo; omega, by have := h.hi; simp; omega, fun i hi ht => ?_, fun i hi => ?_⟩
   · rw [getD_snoc11, List.length_set, if_pos (by have := h.lo; omega)]
     exact keep _ i hi ht
   · rw [getD_snoc11, List.length_set]
     have hi' : i < ns1.length + 1 := by simpa using hi
     split
     · rw [getD_set11 _ _ _ _ hlt]
       split
       · exact h5.1
       · rename_i q _; exact h.form i q
     · rw [if_pos (by omega)]; exact h5.2
theorem upS_take (R : List (Int × Nat)) (ns : List Nd) (e : En) (k : Int) {j : Nat} (hj : j < R.length) : upS (R.take (j + 1)) ns e k = match upS (R.take j) ns e k with
 | (ns1, none) => (ns1, none)
 | (ns1, some (up, k')) => layN ns1 (R.getD j (0, 0)).1 (takeN (ns1.getD (R.getD j (0, 0)).1.toNat nd0) (R.getD j (0, 0)).2 up k') := by
 have e1 : R.take (j + 1) = R.take j ++ [R.getD j (0, 0)] := by
  rw [List.take_succ_eq_append_getElem hj, List.getD_eq_getElem?_getD, List.getElem?_eq_getElem hj]; rfl
 rw [e1, upS_app]
 rcases upS (R.take j) ns e k with ⟨ns1, _ | ⟨up, k'⟩⟩
 · rfl
 · dsimp only
   rw [← upS_one]
theorem upS_stop (R : List (Int × Nat)) (ns ns1 : List Nd) (e : En) (k : Int) (j : Nat) (h : upS (R.take j) ns e k = (ns1, none)) : upS R ns e k = (ns1, none) := by
 have := upS_app (R.take j) (R.drop j) ns e k
 rw [List.take_append_drop, h] at this
 exact this
theorem treeIs_lnk {ns : List Nd} {root : Int} (h : treeIs ns root = true) : ∃ sd sd', lnk ns (ns.length + 1) sd root = some sd' := by
 unfold treeIs at h
 revert h
 cases q : lnk ns (ns.length + 1) (List.replicate ns.length false) root with
 | none => intro h; simp at h
 | some sd => exact fun _ => ⟨_, _, q⟩
end Go.Proofs.YtlkoghdajpbffaaGreat
