/- The contract of the program's HeapDead. Conditions: what the types say; statuses of at most 2^62. -/
import Derived.Test.YtebhipicfgnajaaGreatIe10
import Derived.Test.YtebhipicfgnajaaGreatHu10
namespace Go.Proofs.YtebhipicfgnajaaGreat
open Go.RowKit
set_option maxRecDepth 100000

set_option maxHeartbeats 3200000 in
theorem dead_want (Bl Bx : Nat) (r : Rw) (f1 f2 : Nat) (a5 : Option Addr) (c5 : Nat) (a6 : Option Addr) (c6 : Nat) {al : Option Addr} {nl : Nat} (cl : Nat) {l : List Int} (x : Int) {W : World} (hL : ReadsI W al nl l) (hn : nl ≤ 4611686018427387904) (h1 : W.cell? ⟨Bl, 0, none⟩ = some (.slice al nl cl)) (h2 : W.cell? ⟨Bx, 0, none⟩ = some (.int .i64 x)) :
    Calls Tryz.prog 70 #[.agg #[.int .i64 r.p, .int .i64 r.s, .int .i64 r.t.A, .int .i64 r.t.B, .int .i64 r.t.K, .int .i64 r.t.N, .float .f64 f1, .slice a5 r.t.Z.length c5, .int .i64 r.t.L, .int .i64 r.t.M, .float .f64 f2, .slice a6 r.t.Y.length c6], .pointer (some ⟨Bl, 0, none⟩), .pointer (some ⟨Bx, 0, none⟩)] W fun e W' => e = .returned (.bool (deadW l x r)) ∧ Below W.heap.size W W' := by
  have HB := hid (Below.alloc1 W (.cells #[.int .i64 r.p, .int .i64 r.s, .int .i64 r.t.A, .int .i64 r.t.B, .int .i64 r.t.K, .int .i64 r.t.N, .float .f64 f1, .slice a5 r.t.Z.length c5, .int .i64 r.t.L, .int .i64 r.t.M, .float .f64 f2, .slice a6 r.t.Y.length c6] 42))
  have hR := heap_alloc_new W (.cells #[.int .i64 r.p, .int .i64 r.s, .int .i64 r.t.A, .int .i64 r.t.B, .int .i64 r.t.K, .int .i64 r.t.N, .float .f64 f1, .slice a5 r.t.Z.length c5, .int .i64 r.t.L, .int .i64 r.t.M, .float .f64 f2, .slice a6 r.t.Y.length c6] 42)
  have HL := hid (hL.below HB.out (Nat.le_refl _))
  have k1 := (HB.out.cell (p := ⟨Bl, 0, none⟩) (World.block_lt_of_cell? W _ h1)).trans h1
  have k2 := (HB.out.cell (p := ⟨Bx, 0, none⟩) (World.block_lt_of_cell? W _ h2)).trans h2
  have k3 : (W.alloc (.cells #[.int .i64 r.p, .int .i64 r.s, .int .i64 r.t.A, .int .i64 r.t.B, .int .i64 r.t.K, .int .i64 r.t.N, .float .f64 f1, .slice a5 r.t.Z.length c5, .int .i64 r.t.L, .int .i64 r.t.M, .float .f64 f2, .slice a6 r.t.Y.length c6] 42)).cell? ⟨W.heap.size, 2, none⟩ = some (.int .i64 r.t.A) := by rw [cell_of_row _ _ _ _ _ _ hR]; rfl
  have k4 : (W.alloc (.cells #[.int .i64 r.p, .int .i64 r.s, .int .i64 r.t.A, .int .i64 r.t.B, .int .i64 r.t.K, .int .i64 r.t.N, .float .f64 f1, .slice a5 r.t.Z.length c5, .int .i64 r.t.L, .int .i64 r.t.M, .float .f64 f2, .slice a6 r.t.Y.length c6] 42)).cell? ⟨W.heap.size, 3, none⟩ = some (.int .i64 r.t.B) := by rw [cell_of_row _ _ _ _ _ _ hR]; rfl
  have HD := hid (show deadW l x r = deadB l r.t.A r.t.B x from rfl)
  clear hR hL h1 h2
  go_enter Tryz.func70, Tryz.ntmps70
  go_wp2_with fail
  refine (impl_Dead cl HL.out hn _ _ _).mono ?_
  rintro e w1 ⟨rfl, rfl⟩
  go_wp2_with fail
  go_ret
  rw [HD.out]
  exact ⟨rfl, HB.out⟩

set_option maxHeartbeats 3200000 in
theorem impl_HeapDead {ad : Option Addr} {n : Nat} (cap : Nat) {ps : List Pg} {al : Option Addr} {nl : Nat} (cl : Nat) {l : List Int} {w : World} (h : ReadsG w ad ps) (hl : ps.length = n) (hL : ReadsI w al nl l) (hn : nl ≤ 4611686018427387904) (x : Int) :
    Calls Tryz.prog 15 #[.agg #[.slice ad n cap], .slice al nl cl, .int .i64 x] w fun e w' => ∃ v, e = .returned v ∧ OwnRw w' w.heap.size w'.heap.size v (deadH ps l x) ∧ Below w.heap.size w w' := by
  have z1 := alloc_size w (.cells #[.slice ad n cap] 26)
  have z2 := alloc_size (w.alloc (.cells #[.slice ad n cap] 26)) (.cells #[.slice al nl cl] 32)
  have z3 := alloc_size ((w.alloc (.cells #[.slice ad n cap] 26)).alloc (.cells #[.slice al nl cl] 32)) (.cells #[.int .i64 x] 3)
  have b1 := Boxed.new w 26 (.slice ad n cap)
  have b2 := Boxed.new (w.alloc (.cells #[.slice ad n cap] 26)) 32 (.slice al nl cl)
  have b3 := Boxed.new ((w.alloc (.cells #[.slice ad n cap] 26)).alloc (.cells #[.slice al nl cl] 32)) 3 (.int .i64 x)
  rw [z1] at b2 z2
  rw [z2] at b3 z3
  have hBl : Below w.heap.size w (((w.alloc (.cells #[.slice ad n cap] 26)).alloc (.cells #[.slice al nl cl] 32)).alloc (.cells #[.int .i64 x] 3)) := (((Below.refl _ w).alloc (Nat.le_refl _) _).alloc (by omega) _).alloc (by omega) _
  have HB := hid hBl
  have HR := hid (h.below hBl (Nat.le_refl _))
  have HL := hid (hL.below hBl (Nat.le_refl _))
  have H1 := hid ((b1.alloc (.cells #[.slice al nl cl] 32)).alloc (.cells #[.int .i64 x] 3))
  have H2 := hid (b2.alloc (.cells #[.int .i64 x] 3))
  have H3 := hid b3
  have c0 := H1.out.cell
  clear h hL b1 b2 b3 z1 z2 z3 hBl
  go_enter Tryz.func15, Tryz.ntmps15
  go_wp2_with fail
  generalize ((w.alloc (.cells #[.slice ad n cap] 26)).alloc (.cells #[.slice al nl cl] 32)).alloc (.cells #[.int .i64 x] 3) = w1 at *
  refine (impl_HeapOk cap HR.out hl).mono ?_
  rintro e W ⟨rfl, b⟩
  have hc0 := (b.cell (p := ⟨w.heap.size, 0, none⟩) H1.out.lt).trans c0
  have h2 := (b.cell (p := ⟨w.heap.size + 1, 0, none⟩) H2.out.lt).trans H2.out.cell
  have h3 := (b.cell (p := ⟨w.heap.size + 1 + 1, 0, none⟩) H3.out.lt).trans H3.out.cell
  have K2 := hid h2
  have K3 := hid h3
  replace HR := hid (HR.out.below b (Nat.le_refl _))
  replace HL := hid (HL.out.below b (Nat.le_refl _))
  replace HB := hid (HB.out.trans (b.mono HB.out.size))
  clear b c0 h2 h3
  cases hok : okH ps with
  | false =>
    go_wp2_with fail
    go_ret
    have e0 : deadH ps l x = [] := by unfold deadH rowsH; rw [hok]; rfl
    rw [e0]
    exact ⟨_, rfl, OwnRw.nil _ _ _, HB.out⟩
  | true =>
    have HE := hid (show deadH ps l x = (rowsG 0 ps).filter (deadW l x) by unfold deadH rowsH; rw [if_pos hok])
    have HC := hid (rowsThat_dead (w.heap.size + 1) (w.heap.size + 1 + 1) cap HR.out hl hok (deadW l x) (fun r f1 f2 a5 c5 a6 c6 W0 W2 b2 _ =>
      dead_want (w.heap.size + 1) (w.heap.size + 1 + 1) r f1 f2 a5 c5 a6 c6 cl x (HL.out.below b2 (Nat.le_refl _)) hn ((b2.cell (p := ⟨w.heap.size + 1, 0, none⟩) (World.block_lt_of_cell? W _ K2.out)).trans K2.out) ((b2.cell (p := ⟨w.heap.size + 1 + 1, 0, none⟩) (World.block_lt_of_cell? W _ K3.out)).trans K3.out)))
    clear hok
    go_wp2_with fail
    refine HC.out.mono ?_
    rintro e w2 ⟨v, rfl, ow, b⟩
    obtain ⟨a, c, rfl⟩ := ow.slice
    have HOW := hid (ow.mono (lo' := w.heap.size) HB.out.size (Nat.le_refl _))
    have HB2 := hid (HB.out.trans (b.mono HB.out.size))
    clear ow b HC
    go_wp2_with fail
    go_ret
    rw [HE.out]
    exact ⟨_, rfl, HOW.out, HB2.out⟩
end Go.Proofs.YtebhipicfgnajaaGreat
