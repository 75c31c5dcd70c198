/- A place of a heap cleared, plain; the contract of the program's HeapClear. Conditions: what the types say. -/
import Derived.Test.YtebhipicfgnajaaGreatIk10
import Derived.Test.YtebhipicfgnajaaGreatIb10
import Derived.Test.YtebhipicfgnajaaGreatWp
namespace Go.Proofs.YtebhipicfgnajaaGreat
open Go.RowKit
set_option maxRecDepth 100000

theorem atH_ok {ps : List Pg} {x y : Int} (h : (atH ps x y).ok = true) : okH ps = true ∧ (0 ≤ x ∧ x ≤ (ps.length : Int) - 1) ∧ (0 ≤ y ∧ y ≤ ((ps.getD x.toNat pg0).2.length : Int) - 1) := by
  refine Decidable.byContradiction (fun q => ?_)
  rw [atH_no q] at h
  cases h
def clrOk (ps : List Pg) (x y lsn : Int) : Bool := (atH ps x y).ok && decide (1 ≤ lsn ∧ lsn ≤ 1000000)
def clrH (ps : List Pg) (x y lsn : Int) : List Pg := if clrOk ps x y lsn = true then withH ps x.toNat (clearP (ps.getD x.toNat pg0).1 (ps.getD x.toNat pg0).2 y lsn) else []
theorem clrH_no {ps : List Pg} {x y lsn : Int} (h : clrOk ps x y lsn = false) : clrH ps x y lsn = [] := by unfold clrH; rw [h]; rfl
theorem clrOk_page {ps : List Pg} {x y lsn : Int} (h : (atH ps x y).ok = true) : clearOk (ps.getD x.toNat pg0).1 (ps.getD x.toNat pg0).2 y lsn = decide (1 ≤ lsn ∧ lsn ≤ 1000000) := by
  obtain ⟨h1, h2, h3⟩ := atH_ok h
  have h4 := (okPg_of ((okH_of h1).2 x.toNat (by omega))).1
  unfold clearOk
  rw [h4, decide_eq_true h3]
  simp

set_option maxHeartbeats 3200000 in
theorem clear_change (Bs Bn : Nat) (A : Int) {a : Option Addr} {mm : Nat} (cc : Nat) {ss : List (List Int)} (y lsn : Int) {W : World} (h : ReadsS W a ss) (hl : ss.length = mm) (hmm : mm ≤ 140737488355328) (h1 : W.cell? ⟨Bs, 0, none⟩ = some (.int .i64 y)) (h2 : W.cell? ⟨Bn, 0, none⟩ = some (.int .i64 lsn)) {RL : Int} {RS : List (List Int)} {ok : Bool} {m : Nat} (hR : clearP A ss y lsn = (RL, RS)) (hk : clearOk A ss y lsn = ok) (hm : RS.length = m) :
    Calls Tryz.prog 97 #[.agg #[.int .i64 A, .slice a mm cc], .pointer (some ⟨Bs, 0, none⟩), .pointer (some ⟨Bn, 0, none⟩)] W fun e W' => ∃ a' c', e = .returned (.tuple #[.agg #[.int .i64 RL, .slice a' m c'], .bool ok]) ∧ OwnP W' W.heap.size W'.heap.size (.slice a' m c') RS ∧ Below W.heap.size W W' := by
  obtain ⟨R1, R2, z⟩ := two_rows W (.cells #[.int .i64 A, .slice a mm cc] 97) (.cells #[.int .i64 0, .slice none 0 0] 97)
  have hB := two W (.cells #[.int .i64 A, .slice a mm cc] 97) (.cells #[.int .i64 0, .slice none 0 0] 97)
  have HB := hid hB
  have k1 := (hB.cell (p := ⟨Bs, 0, none⟩) (World.block_lt_of_cell? W _ h1)).trans h1
  have k2 := (hB.cell (p := ⟨Bn, 0, none⟩) (World.block_lt_of_cell? W _ h2)).trans h2
  have x0 : ((W.alloc (.cells #[.int .i64 A, .slice a mm cc] 97)).alloc (.cells #[.int .i64 0, .slice none 0 0] 97)).cell? ⟨W.heap.size, 0, none⟩ = some (.int .i64 A) := cell_of_row _ _ 0 _ _ _ R1
  have x1 : ((W.alloc (.cells #[.int .i64 A, .slice a mm cc] 97)).alloc (.cells #[.int .i64 0, .slice none 0 0] 97)).cell? ⟨W.heap.size, 1, none⟩ = some (.slice a mm cc) := cell_of_row _ _ 1 _ _ _ R1
  have HC := hid (impl_PageClear A cc y lsn (h.below hB (Nat.le_refl _)) hl hmm hR hk hm)
  have S2 := hid R2
  have ZZ := hid z
  clear h h1 h2 hB R1 R2 z hR hk
  go_enter Tryz.func97, Tryz.ntmps97
  go_wp2_with fail
  refine HC.out.mono ?_
  rintro e w2 ⟨a', c', rfl, op, b⟩
  have T2 := hid ((b.block (W.heap.size + 1) (by have := ZZ.out; omega)).trans S2.out)
  have HB2 := hid (HB.out.trans (b.mono HB.out.size))
  have OP := hid op
  have hzz := ZZ.out
  clear b op HC x0 x1 k1 k2
  go_wp2_with (refine wpList_store_row rfl 97 (.tmp 4) (.tmp 10) rfl (W.heap.size + 1) #[.int .i64 RL, .slice a' m c'] rfl rfl 97 _ T2.out ?s1 ?s2 ?s3 ?_)
  case s1 => simpa using size_pg
  try (case s2 => rfl)
  case s3 => simp [Value.oneCell']
  refine bodyPost_ret (results_cell_tmp Tryz.results97 _ _ (W.heap.size + 1) 97 #[.int .i64 RL, .slice a' m c'] (0, 0) _ rfl (setRow_heap _ _ _ _ _ _ T2.out) Tryz.underlying97 rfl size_pg) rfl ?_
  exact ⟨a', c', rfl, (OP.out.agree (fun q h1 _ => setRow_other _ _ _ _ (by omega))).mono (by omega) (by simp), below_setRow HB2.out (by omega) _⟩

set_option maxHeartbeats 6400000 in
theorem impl_HeapClear {ad : Option Addr} {n : Nat} (cap : Nat) {ps : List Pg} {w : World} (h : ReadsG w ad ps) (hl : ps.length = n) (x y lsn : Int) :
    Calls Tryz.prog 33 #[.agg #[.slice ad n cap], .int .i64 x, .int .i64 y, .int .i64 lsn] w fun e w' => AnsH (clrH ps x y lsn) (clrOk ps x y lsn) w e w' := by
  have z1 := alloc_size w (.cells #[.slice ad n cap] 26)
  have z2 := alloc_size (w.alloc (.cells #[.slice ad n cap] 26)) (.cells #[.int .i64 y] 3)
  have z3 := alloc_size ((w.alloc (.cells #[.slice ad n cap] 26)).alloc (.cells #[.int .i64 y] 3)) (.cells #[.int .i64 lsn] 3)
  have z4 := alloc_size (((w.alloc (.cells #[.slice ad n cap] 26)).alloc (.cells #[.int .i64 y] 3)).alloc (.cells #[.int .i64 lsn] 3)) (.cells #[.slice none 0 0] 26)
  have b1 := Boxed.new w 26 (.slice ad n cap)
  have b2 := Boxed.new (w.alloc (.cells #[.slice ad n cap] 26)) 3 (.int .i64 y)
  have b3 := Boxed.new ((w.alloc (.cells #[.slice ad n cap] 26)).alloc (.cells #[.int .i64 y] 3)) 3 (.int .i64 lsn)
  have b4 := Boxed.new (((w.alloc (.cells #[.slice ad n cap] 26)).alloc (.cells #[.int .i64 y] 3)).alloc (.cells #[.int .i64 lsn] 3)) 26 (.slice none 0 0)
  rw [z1] at b2 z2
  rw [z2] at b3 z3
  rw [z3] at b4 z4
  have hB : Below w.heap.size w ((((w.alloc (.cells #[.slice ad n cap] 26)).alloc (.cells #[.int .i64 y] 3)).alloc (.cells #[.int .i64 lsn] 3)).alloc (.cells #[.slice none 0 0] 26)) := ((((Below.refl _ w).alloc (Nat.le_refl _) _).alloc (by omega) _).alloc (by omega) _).alloc (by omega) _
  have HB := hid hB
  have HR := hid (h.below hB (Nat.le_refl _))
  have HX1 := hid (((b1.alloc (.cells #[.int .i64 y] 3)).alloc (.cells #[.int .i64 lsn] 3)).alloc (.cells #[.slice none 0 0] 26))
  have HX2 := hid ((b2.alloc (.cells #[.int .i64 lsn] 3)).alloc (.cells #[.slice none 0 0] 26))
  have HX3 := hid (b3.alloc (.cells #[.slice none 0 0] 26))
  have HX4 := hid b4
  have HZ := hid z4
  have c1 := HX1.out.cell
  have c2 := HX2.out.cell
  clear h b1 b2 b3 b4 z1 z2 z3 z4 hB
  go_enter Tryz.func33, Tryz.ntmps33
  go_wp2_with fail
  generalize (((w.alloc (.cells #[.slice ad n cap] 26)).alloc (.cells #[.int .i64 y] 3)).alloc (.cells #[.int .i64 lsn] 3)).alloc (.cells #[.slice none 0 0] 26) = W0 at *
  refine (impl_HeapAt cap HR.out hl x y).mono ?_
  rintro e w5 ⟨⟨f1, v1, f2, v2, rfl, _, _, _, _, o1, o2, _, b5⟩⟩
  obtain ⟨a1, c3, rfl⟩ := own_sl o1
  obtain ⟨a2, c4, rfl⟩ := own_sl o2
  have hst1 := fun w a m => run_store Tryz.prog w a (.float .f64 f1) m rfl
  have hst2 := fun w a m => run_store Tryz.prog w a (.float .f64 f2) m rfl
  have HOKD := hid (show clrOk ps x y lsn = ((atH ps x y).ok && decide (1 ≤ lsn ∧ lsn ≤ 1000000)) from rfl)
  have HAT := hid (fun (q : (atH ps x y).ok = true) => (⟨atH_ok q, clrOk_page (lsn := lsn) q⟩ : (okH ps = true ∧ (0 ≤ x ∧ x ≤ (ps.length : Int) - 1) ∧ (0 ≤ y ∧ y ≤ ((ps.getD x.toNat pg0).2.length : Int) - 1)) ∧ clearOk (ps.getD x.toNat pg0).1 (ps.getD x.toNat pg0).2 y lsn = decide (1 ≤ lsn ∧ lsn ≤ 1000000)))
  clear o1 o2 c1 c2
  generalize (atH ps x y).A = q1 at *
  generalize (atH ps x y).B = q2 at *
  generalize (atH ps x y).K = q3 at *
  generalize (atH ps x y).N = q4 at *
  generalize (atH ps x y).L = q5 at *
  generalize (atH ps x y).M = q6 at *
  generalize (atH ps x y).Z.length = q7 at *
  generalize (atH ps x y).Y.length = q8 at *
  generalize (atH ps x y).ok = ok at *
  have bX := Below.alloc1 w5 (.cells #[.int .i64 q1, .int .i64 q2, .int .i64 q3, .int .i64 q4, .float .f64 f1, .slice a1 q7 c3, .int .i64 q5, .int .i64 q6, .float .f64 f2, .slice a2 q8 c4] 40)
  have b6 := b5.trans (bX.mono b5.size)
  have hY1 := HX1.out.kept (World.grownBy.mk b6.os b6.tape b6.output b6.size (fun k hk _ => b6.block k hk)) (row := none) (by simp)
  have hY2 := HX2.out.kept (World.grownBy.mk b6.os b6.tape b6.output b6.size (fun k hk _ => b6.block k hk)) (row := none) (by simp)
  have hY3 := HX3.out.kept (World.grownBy.mk b6.os b6.tape b6.output b6.size (fun k hk _ => b6.block k hk)) (row := none) (by simp)
  have hY4 := HX4.out.kept (World.grownBy.mk b6.os b6.tape b6.output b6.size (fun k hk _ => b6.block k hk)) (row := none) (by simp)
  have HR6 := hid (HR.out.below b6 (Nat.le_refl _))
  have HB6 := hid (HB.out.trans (b6.mono HB.out.size))
  have Y2 := hid hY2
  have Y3 := hid hY3
  have Y4 := hid hY4
  have HZ6 := hid (show w.heap.size + 4 ≤ (w5.alloc (.cells #[.int .i64 q1, .int .i64 q2, .int .i64 q3, .int .i64 q4, .float .f64 f1, .slice a1 q7 c3, .int .i64 q5, .int .i64 q6, .float .f64 f2, .slice a2 q8 c4] 40)).heap.size by have := b6.size; have := HZ.out; omega)
  have c1 := hY1.cell
  clear bX b5 b6 hY1 hY2 hY3 hY4
  cases ok with
  | false =>
    rw [Bool.false_and] at HOKD
    have HNO := hid (clrH_no HOKD.out)
    clear c1
    go_wp2_with (refine wpList_store_row rfl 26 (.tmp 8) (.tmp 21) rfl (w.heap.size + 1 + 1 + 1) #[.slice none 0 0] rfl rfl 26 _ Y4.out ?s1 ?s2 ?s3 ?_)
    case s1 => simpa using size_hp
    try (case s2 => rfl)
    case s3 => simp [Value.oneCell']
    refine bodyPost_ret (results_cell_tmp Tryz.results33 _ _ (w.heap.size + 1 + 1 + 1) 26 #[.slice none 0 0] (0, 0) _ rfl (setRow_heap _ _ _ _ _ _ Y4.out) Tryz.underlying26 rfl size_hp) rfl ?_
    rw [HOKD.out, HNO.out]
    exact AnsH.zero rfl (below_setRow HB6.out (by omega) _)
  | true =>
    rw [Bool.true_and] at HOKD
    obtain ⟨⟨hok, hx, hy⟩, hcl⟩ := HAT.out rfl
    obtain ⟨q, rfl⟩ : ∃ q : Nat, x = q := ⟨x.toNat, by omega⟩
    rw [Int.toNat_natCast] at hcl hy
    have HCH := hid (show clrH ps q y lsn = if decide (1 ≤ lsn ∧ lsn ≤ 1000000) = true then withH ps q (clearP (ps.getD q pg0).1 (ps.getD q pg0).2 y lsn) else [] by unfold clrH; rw [HOKD.out, Int.toNat_natCast])
    have h16 := (okP_of (okPg_of ((okH_of hok).2 q (by omega))).1).n
    obtain ⟨OK, hOK⟩ : ∃ OK, decide (1 ≤ lsn ∧ lsn ≤ 1000000) = OK := ⟨_, rfl⟩
    obtain ⟨RL, RS, hRR⟩ : ∃ RL RS, clearP (ps.getD q pg0).1 (ps.getD q pg0).2 y lsn = (RL, RS) := ⟨_, _, rfl⟩
    rw [hOK] at hcl HCH HOKD
    rw [hRR] at HCH
    have HC := hid (changed_clear (w.heap.size + 1) (w.heap.size + 1 + 1) cap (q := q) (RL := RL) (RS := RS) (m := RS.length) (ok := OK) HR6.out hl hok (by omega) (fun a mm cc W bW hr hmm =>
      clear_change (w.heap.size + 1) (w.heap.size + 1 + 1) _ cc y lsn hr hmm (by omega) ((bW.cell (p := ⟨w.heap.size + 1, 0, none⟩) Y2.out.lt).trans Y2.out.cell) ((bW.cell (p := ⟨w.heap.size + 1 + 1, 0, none⟩) Y3.out.lt).trans Y3.out.cell) hRR hcl rfl))
    clear hok hx hy hcl hRR hOK h16 HAT
    go_wp2_with fail
    refine HC.out.mono ?_
    rintro e w7 ⟨v7, c7, rfl, og, b7⟩
    have U4 := hid ((b7.block (w.heap.size + 1 + 1 + 1) (by have := HZ6.out; omega)).trans Y4.out)
    have HB7 := hid (HB6.out.trans (b7.mono HB6.out.size))
    have OG := hid og
    have hz6 := HZ6.out
    clear b7 og HC c1
    obtain ⟨QS, hQS⟩ : ∃ QS, (if OK = true then withH ps q (RL, RS) else []) = QS := ⟨_, rfl⟩
    rw [hQS] at OG HCH ⊢
    obtain ⟨N, hN⟩ : ∃ N, QS.length = N := ⟨_, rfl⟩
    rw [hN] at OG ⊢
    have HN := hid hN
    clear hN hQS
    go_wp2_with (refine wpList_store_row rfl 26 (.tmp 8) (.tmp 26) rfl (w.heap.size + 1 + 1 + 1) #[.slice v7 N c7] rfl rfl 26 _ U4.out ?u1 ?u2 ?u3 ?_)
    case u1 => simpa using size_hp
    try (case u2 => rfl)
    case u3 => simp [Value.oneCell']
    refine bodyPost_ret (results_cell_tmp Tryz.results33 _ _ (w.heap.size + 1 + 1 + 1) 26 #[.slice v7 N c7] (0, 0) _ rfl (setRow_heap _ _ _ _ _ _ U4.out) Tryz.underlying26 rfl size_hp) rfl ?_
    rw [HOKD.out, HCH.out]
    exact ⟨v7, c7, by rw [HN.out]; rfl, by rw [HN.out]; exact (OG.out.agree (fun k h1 _ => setRow_other _ _ _ _ (by omega))).mono (by omega) (by simp), below_setRow HB7.out (by omega) _⟩
end Go.Proofs.YtebhipicfgnajaaGreat
