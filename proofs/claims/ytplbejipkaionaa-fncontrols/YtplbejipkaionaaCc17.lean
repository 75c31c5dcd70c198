/- The contract of the specification's ControlRead. Conditions: at most 2^21 bytes. -/
import Derived.Test.YtplbejipkaionaaCb17
import Derived.Test.YtplbejipkaionaaGet
import Derived.Test.YtplbejipkaionaaSx7
import Derived.Test.YtplbejipkaionaaRk3
namespace Go.Proofs.Ytplbejipkaionaa
open Go.RowKit
set_option maxRecDepth 100000

structure Ct where
  sq : Int
  ar : Int
  ls : Int
  nx : Int
  pg : Int
def rawC (zs : List Int) : Ct := ⟨numOf zs 3 4, zs.getD 7 0, numOf zs 8 4, numOf zs 12 4, zs.getD 16 0⟩
def rdOkC (zs : List Int) : Bool := decide (zs.length = 64 ∧ ctlL (rawC zs).sq (rawC zs).ar (rawC zs).ls (rawC zs).nx (rawC zs).pg = zs)
/-- What ControlRead answers. -/
def rdC (zs : List Int) : Ct := if rdOkC zs = true then rawC zs else ⟨0, 0, 0, 0, 0⟩
def cellsC (c : Ct) : Array Value := #[.int .i64 c.sq, .int .i64 c.ar, .int .i64 c.ls, .int .i64 c.nx, .int .i64 c.pg]
theorem rdC_yes {zs : List Int} (h : rdOkC zs = true) : rdC zs = rawC zs := by unfold rdC; rw [if_pos h]
theorem rdC_no {zs : List Int} (h : rdOkC zs = false) : rdC zs = ⟨0, 0, 0, 0, 0⟩ := by unfold rdC; rw [h]; rfl
theorem exec_load17 {P : Program} {o : Oper} {a : Act} {w : World} (ty : TypeId) (x : Operand) (ho : o.op = .load ty x)
    (g : Nat) (hx : a.eval x = .pointer (some ⟨g, 0, none⟩)) (t : TypeId) (cs : Array Value) (fr : Nat × Nat) (d : TypeDesc) (hg : w.heap[g]? = some (.cells cs t fr))
    (hu : P.underlying ty = some d) (hd : (match d with | .struct _ | .array _ _ => true | _ => false) = true) (hi : (P.info? ty).map (·.size) = some cs.size) :
    (execOp a.eval o).run P w = .ok (.value (.agg cs)) w := by
  unfold execOp
  simp only [ho, hx, Instr.loadAt, Instr.sureAddr, Sem.run_bind, Sem.run_pure, Result.andThen_ok, run_loadVar_row w g t ty cs fr d hg hu hd hi]
theorem results_cell_tmp17 {P : Program} {fn : Func} {p q : Tmp} {ty : TypeId} (h : fn.results = #[.cell p ty, .tmp q]) (tmps : Array Value) (w : World) (g : Nat) (t : TypeId) (cs : Array Value) (fr : Nat × Nat) (d : TypeDesc)
    (hp : tmps.getD p undef = .pointer (some ⟨g, 0, none⟩)) (hg : w.heap[g]? = some (.cells cs t fr))
    (hu : P.underlying ty = some d) (hd : (match d with | .struct _ | .array _ _ => true | _ => false) = true) (hi : (P.info? ty).map (·.size) = some cs.size) :
    (results fn tmps).run P w = .ok (.tuple #[.agg cs, tmps.getD q undef]) w := by
  have hp' : tmps[p]?.getD undef = .pointer (some ⟨g, 0, none⟩) := by simpa using hp
  simp [results, h, hp', asAddr, run_loadVar_row w g t ty cs fr d hg hu hd hi]
theorem two_rows17 (w : World) (a b : Obj) : ((w.alloc a).alloc b).heap[w.heap.size]? = some a ∧ ((w.alloc a).alloc b).heap[w.heap.size + 1]? = some b ∧ ((w.alloc a).alloc b).heap.size = w.heap.size + 2 := by
  have z1 := alloc_size w a
  have z2 := alloc_size (w.alloc a) b
  refine ⟨?_, ?_, by omega⟩
  · rw [heap_alloc_old _ _ (by omega)]; exact heap_alloc_new w a
  · have := heap_alloc_new (w.alloc a) b
    rwa [z1] at this
theorem two_below17 (w : World) (a b : Obj) : Below w.heap.size w ((w.alloc a).alloc b) := ((Below.refl w.heap.size w).alloc (Nat.le_refl _) a).alloc (by have := alloc_size w a; omega) b
set_option maxHeartbeats 12800000 in
theorem spec_ControlRead {ad : Option Addr} {n : Nat} (cap : Nat) {zs : List Int} {w : World} (h : Reads w ad n zs) (hn : n ≤ 2097152) :
    Calls Try.prog 16 #[.slice ad n cap] w fun e w' => e = .returned (.tuple #[.agg (cellsC (rdC zs)), .bool (rdOkC zs)]) ∧ Below w.heap.size w w' := by
  have hl := h.len
  by_cases h64 : n = 64
  case neg =>
    have HY := hid (show rdOkC zs = false from decide_eq_false (fun q => h64 (by omega)))
    have q0 : ((n : Int) != 64) = true := by simp; omega
    obtain ⟨r0, r1, -⟩ := two_rows17 w (.cells #[.int .i64 0, .int .i64 0, .int .i64 0, .int .i64 0, .int .i64 0] 25) (.cells #[.int .i64 0, .int .i64 0, .int .i64 0, .int .i64 0, .int .i64 0] 25)
    have R0 := hid r0
    have R1 := hid r1
    have B6 := hid (two_below17 w (.cells #[.int .i64 0, .int .i64 0, .int .i64 0, .int .i64 0, .int .i64 0] 25) (.cells #[.int .i64 0, .int .i64 0, .int .i64 0, .int .i64 0, .int .i64 0] 25))
    clear r0 r1 h hl h64
    go_enter Try.func16, Try.ntmps16
    go_wp2_with (first
      | (refine wpList_load_row rfl 25 (.tmp 4) rfl (w.heap.size + 1) rfl 25 _ (0, 0) _ R1.out Try.underlying25 rfl size_ct ?_)
      | (refine wpList_store_row rfl 25 (.tmp 2) (.tmp 8) rfl w.heap.size #[.int .i64 0, .int .i64 0, .int .i64 0, .int .i64 0, .int .i64 0] rfl rfl 25 _ R0.out ?s7 ?s8 ?s9 ?_))
    case s7 => exact size_ct
    case s8 => rfl
    case s9 => simp [Value.oneCell']
    refine bodyPost_ret (results_cell_tmp17 Try.results16 _ _ w.heap.size 25 #[.int .i64 0, .int .i64 0, .int .i64 0, .int .i64 0, .int .i64 0] (0, 0) _ rfl (setRow_heap _ _ _ _ _ _ R0.out) Try.underlying25 rfl size_ct) rfl ⟨?_, below_setRow B6.out (Nat.le_refl _) _⟩
    rw [HY.out, rdC_no HY.out]
    rfl
  subst h64
  have q0 : ((64 : Int) != 64) = false := by simp
  obtain ⟨b, off, rfl⟩ : ∃ b off, ad = some ⟨b, off, none⟩ := by
    rcases h.cells with h0 | ⟨b, off, e, _⟩
    · omega
    · exact ⟨b, off, e⟩
  have RR := hid (fun X Y => h.below (two_below17 w X Y) (Nat.le_refl _))
  have hcell := fun X Y (i : Nat) (hi : i < 64) => show ((w.alloc X).alloc Y).cell? ⟨b, off + i, none⟩ = some (.int .u8 (zs.getD i 0)) by
    rcases (h.below (two_below17 w X Y) (Nat.le_refl _)).cells with h0 | ⟨b', off', e, hc⟩
    · omega
    · cases e; exact hc i hi
  have hc7 := fun X Y => hcell X Y 7 (by omega)
  have hc16 := fun X Y => hcell X Y 16 (by omega)
  have hbd := h.bd
  have HBz := hid hbd
  have HL := hid hl
  have HRaw := hid (show rawC zs = ⟨numOf zs 3 4, zs.getD 7 0, numOf zs 8 4, numOf zs 12 4, zs.getD 16 0⟩ from rfl)
  have b7 := hbd 7
  have b16 := hbd 16
  have F1 := hid (fun X Y => spec_GetNum cap (RR.out X Y) hn 3 4 (by omega) (by omega) (by omega))
  have F2 := hid (fun X Y => spec_GetNum cap (RR.out X Y) hn 8 4 (by omega) (by omega) (by omega))
  have F3 := hid (fun X Y => spec_GetNum cap (RR.out X Y) hn 12 4 (by omega) (by omega) (by omega))
  generalize zs.getD 7 0 = ar at hc7 b7 HRaw
  generalize zs.getD 16 0 = pg at hc16 b16 HRaw
  have w7 : IntKind.i64.wrap ar = ar := by simp [IntKind.wrap, IntKind.bits, IntKind.signed]; omega
  have w16 : IntKind.i64.wrap pg = pg := by simp [IntKind.wrap, IntKind.bits, IntKind.signed]; omega
  generalize numOf zs 3 4 = sq at F1 HRaw
  generalize numOf zs 8 4 = ls at F2 HRaw
  generalize numOf zs 12 4 = nx at F3 HRaw
  clear hcell h hl hbd
  go_enter Try.func16, Try.ntmps16
  go_wp2_with fail
  refine (F1.out _ _).mono ?_
  rintro e w1 ⟨rfl, e1⟩
  subst w1
  go_wp2_with fail
  refine (F2.out _ _).mono ?_
  rintro e w1 ⟨rfl, e1⟩
  subst w1
  go_wp2_with fail
  refine (F3.out _ _).mono ?_
  rintro e w1 ⟨rfl, e1⟩
  subst w1
  obtain ⟨U, hU⟩ : ∃ U, (w.alloc (.cells #[.int .i64 0, .int .i64 0, .int .i64 0, .int .i64 0, .int .i64 0] 25)).alloc (.cells #[.int .i64 sq, .int .i64 ar, .int .i64 ls, .int .i64 nx, .int .i64 pg] 25) = U := ⟨_, rfl⟩
  have hr := two_rows17 w (.cells #[.int .i64 0, .int .i64 0, .int .i64 0, .int .i64 0, .int .i64 0] 25) (.cells #[.int .i64 sq, .int .i64 ar, .int .i64 ls, .int .i64 nx, .int .i64 pg] 25)
  rw [hU] at hr
  have H0 := hid hr.1
  have H1 := hid hr.2.1
  have HZ := hid hr.2.2
  have HB := hid (show Below w.heap.size w U by rw [← hU]; exact two_below17 _ _ _)
  have RU := hid (show Reads U (some ⟨b, off, none⟩) 64 zs by rw [← hU]; exact RR.out _ _)
  have HK := hid (fun X (bX : Below U.heap.size U X) => show RowC X (w.heap.size + 1) #[.int .i64 sq, .int .i64 ar, .int .i64 ls, .int .i64 nx, .int .i64 pg] 25 ∧ (convert 22 9 (.slice (some ⟨b, off, none⟩) 64 cap)).run Try.prog X = .ok (.string (str zs)) X from ⟨⟨(bX.block (w.heap.size + 1) (by have := HZ.out; omega)).trans H1.out⟩, (RU.out.below bX (Nat.le_refl _)).str cap 22 Try.underlying22 Try.underlying5 Try.underlying9⟩)
  have HBY := hid (ctl_bd sq ar ls nx pg).2
  have HSE := hid (str_eq7 (ctl_bd sq ar ls nx pg).2 HBz.out)
  have HRw := hid (show rdOkC zs = decide (zs.length = 64 ∧ ctlL sq ar ls nx pg = zs) by unfold rdOkC; rw [HRaw.out])
  clear hr F1 F2 F3 RR
  by_cases he : ctlL sq ar ls nx pg = zs
  · skip
    have hse : ((str (ctlL sq ar ls nx pg)).toList == (str zs).toList) = true := by rw [HSE.out]; exact decide_eq_true he
    have HY := hid (show rdOkC zs = true by rw [HRw.out]; exact decide_eq_true ⟨HL.out, he⟩)
    clear he
    go_wp2_with fail
    try rw [hU]
    refine region_K 99 (fun X => RowC X (w.heap.size + 1) #[.int .i64 sq, .int .i64 ar, .int .i64 ls, .int .i64 nx, .int .i64 pg] 25 ∧ (convert 22 9 (.slice (some ⟨b, off, none⟩) 64 cap)).run Try.prog X = .ok (.string (str zs)) X) (by kernel_rfl) ?_ (fun hHeld => ?_)
    · exact HK.out _ ((Below.refl _ U).drew)
    refine anyK_take2 (i := 3) (v := ?v3y) rfl (by kernel_rfl) (by kernel_rfl) (by kernel_rfl) (by kernel_rfl) (fun _ _ _ h => h) (by rfl) hHeld ?hy3y (some 40) (by rfl) ?rest3y
    case hy3y => (intro W hSw; (try dsimp only at hSw); go_simp; (try with_reducible rfl))
    try simp only [Act.put]
    try simp only [List.setIfInBounds_toArray]
    try simp only [List.set_cons_succ, List.set_cons_zero]
    refine anyK_take2 (i := 4) (v := ?v4y) rfl (by kernel_rfl) (by kernel_rfl) (by kernel_rfl) (by kernel_rfl) (fun _ _ _ h => h) (by rfl) hHeld ?hy4y (some 41) (by rfl) ?rest4y
    case hy4y => (intro W hSw; obtain ⟨q1, q2⟩ := hSw; go_simp; (try with_reducible rfl))
    try simp only [Act.put]
    try simp only [List.setIfInBounds_toArray]
    try simp only [List.set_cons_succ, List.set_cons_zero]
    refine anyK_take2 (i := 0) (v := .agg #[.int .i64 sq, .int .i64 ar, .int .i64 ls, .int .i64 nx, .int .i64 pg]) rfl (by kernel_rfl) (by kernel_rfl) (by kernel_rfl) (by kernel_rfl) (fun _ _ _ h => h) (by rfl) hHeld (fun W hSw => exec_load17 25 (.tmp 4) rfl (w.heap.size + 1) rfl 25 _ (0, 0) _ hSw.1.h Try.underlying25 rfl size_ct) (some 37) (by rfl) ?rest0y
    try simp only [Act.put]
    try simp only [List.setIfInBounds_toArray]
    try simp only [List.set_cons_succ, List.set_cons_zero]
    refine anyK_step (i := 1) (by kernel_rfl) rfl (fun K0 hK => ?_)
    go_simp
    refine (spec_ControlBytes sq ar ls nx pg _).mono ?_
    rintro e y1 ⟨s1, rfl, o1, b1⟩
    obtain ⟨p1, d1, rfl, rp1, -⟩ := Reads.own o1 HBY.out
    have RP1 := hid rp1
    have Y1 := hid (((Below.refl U.heap.size U).drew).trans (b1.mono (Nat.le_refl _)))
    clear rp1 o1 b1
    go_wp2_with fail
    refine hK.out _ _ ?_ (fun hH2 => ?_)
    · exact HK.out _ Y1.out
    clear hK K0 hHeld
    have hHeld := hH2
    clear hH2
    try simp only [Act.put]
    try simp only [List.setIfInBounds_toArray]
    try simp only [List.set_cons_succ, List.set_cons_zero]
    refine anyK_more (fun X => (RowC X (w.heap.size + 1) #[.int .i64 sq, .int .i64 ar, .int .i64 ls, .int .i64 nx, .int .i64 pg] 25 ∧ (convert 22 9 (.slice (some ⟨b, off, none⟩) 64 cap)).run Try.prog X = .ok (.string (str zs)) X) ∧ (convert 22 9 (.slice p1 (ctlL sq ar ls nx pg).length d1)).run Try.prog X = .ok (.string (str (ctlL sq ar ls nx pg))) X) (fun _ h => h.1) ⟨HK.out _ Y1.out, RP1.out.str d1 22 Try.underlying22 Try.underlying5 Try.underlying9⟩ (fun hH3 => ?_)
    clear hHeld
    have hHeld := hH3
    clear hH3
    refine anyK_take2 (i := 2) (v := ?v2y) rfl (by kernel_rfl) (by kernel_rfl) (by kernel_rfl) (by kernel_rfl) (fun _ _ _ h => h) (by rfl) hHeld ?hy2y (some 39) (by rfl) ?rest2y
    case hy2y => (intro W hSw; obtain ⟨q1, q2⟩ := hSw; go_simp; (try with_reducible rfl))
    try simp only [Act.put]
    try simp only [List.setIfInBounds_toArray]
    try simp only [List.set_cons_succ, List.set_cons_zero]
    refine anyK_take2 (i := 5) (v := ?v5y) rfl (by kernel_rfl) (by kernel_rfl) (by kernel_rfl) (by kernel_rfl) (fun _ _ _ h => h) (by rfl) hHeld ?hy5y (some 42) (by rfl) ?rest5y
    case hy5y => (intro W hSw; (try dsimp only at hSw); go_simp; (try with_reducible rfl))
    try simp only [Act.put]
    try simp only [List.setIfInBounds_toArray]
    try simp only [List.set_cons_succ, List.set_cons_zero]
    refine anyK_done (by kernel_rfl) ?_ _
    clear hHeld
    have R0 := hid ((Y1.out.block w.heap.size (by have := HZ.out; omega)).trans H0.out)
    have R1 := hid ((Y1.out.block (w.heap.size + 1) (by have := HZ.out; omega)).trans H1.out)
    have B6 := hid (HB.out.trans (Y1.out.mono HB.out.size))
    clear H0 H1 HB
    go_wp2_with (first
      | (refine wpList_load_row rfl 25 (.tmp 4) rfl (w.heap.size + 1) rfl 25 _ (0, 0) _ R1.out Try.underlying25 rfl size_ct ?_)
      | (refine wpList_store_row rfl 25 (.tmp 2) (.tmp 44) rfl w.heap.size #[.int .i64 sq, .int .i64 ar, .int .i64 ls, .int .i64 nx, .int .i64 pg] rfl rfl 25 _ R0.out ?s7a ?s8a ?s9a ?_))
    case s7a => exact size_ct
    case s8a => rfl
    case s9a => simp [Value.oneCell']
    refine bodyPost_ret (results_cell_tmp17 Try.results16 _ _ w.heap.size 25 #[.int .i64 sq, .int .i64 ar, .int .i64 ls, .int .i64 nx, .int .i64 pg] (0, 0) _ rfl (setRow_heap _ _ _ _ _ _ R0.out) Try.underlying25 rfl size_ct) rfl ⟨?_, below_setRow B6.out (Nat.le_refl _) _⟩
    rw [HY.out, rdC_yes HY.out, HRaw.out]
    rfl
  · skip
    have hse : ((str (ctlL sq ar ls nx pg)).toList == (str zs).toList) = false := by rw [HSE.out]; exact decide_eq_false he
    have HY := hid (show rdOkC zs = false by rw [HRw.out]; exact decide_eq_false (fun q => he q.2))
    clear he
    go_wp2_with fail
    try rw [hU]
    refine region_K 99 (fun X => RowC X (w.heap.size + 1) #[.int .i64 sq, .int .i64 ar, .int .i64 ls, .int .i64 nx, .int .i64 pg] 25 ∧ (convert 22 9 (.slice (some ⟨b, off, none⟩) 64 cap)).run Try.prog X = .ok (.string (str zs)) X) (by kernel_rfl) ?_ (fun hHeld => ?_)
    · exact HK.out _ ((Below.refl _ U).drew)
    refine anyK_take2 (i := 3) (v := ?v3n) rfl (by kernel_rfl) (by kernel_rfl) (by kernel_rfl) (by kernel_rfl) (fun _ _ _ h => h) (by rfl) hHeld ?hy3n (some 40) (by rfl) ?rest3n
    case hy3n => (intro W hSw; (try dsimp only at hSw); go_simp; (try with_reducible rfl))
    try simp only [Act.put]
    try simp only [List.setIfInBounds_toArray]
    try simp only [List.set_cons_succ, List.set_cons_zero]
    refine anyK_take2 (i := 4) (v := ?v4n) rfl (by kernel_rfl) (by kernel_rfl) (by kernel_rfl) (by kernel_rfl) (fun _ _ _ h => h) (by rfl) hHeld ?hy4n (some 41) (by rfl) ?rest4n
    case hy4n => (intro W hSw; obtain ⟨q1, q2⟩ := hSw; go_simp; (try with_reducible rfl))
    try simp only [Act.put]
    try simp only [List.setIfInBounds_toArray]
    try simp only [List.set_cons_succ, List.set_cons_zero]
    refine anyK_take2 (i := 0) (v := .agg #[.int .i64 sq, .int .i64 ar, .int .i64 ls, .int .i64 nx, .int .i64 pg]) rfl (by kernel_rfl) (by kernel_rfl) (by kernel_rfl) (by kernel_rfl) (fun _ _ _ h => h) (by rfl) hHeld (fun W hSw => exec_load17 25 (.tmp 4) rfl (w.heap.size + 1) rfl 25 _ (0, 0) _ hSw.1.h Try.underlying25 rfl size_ct) (some 37) (by rfl) ?rest0n
    try simp only [Act.put]
    try simp only [List.setIfInBounds_toArray]
    try simp only [List.set_cons_succ, List.set_cons_zero]
    refine anyK_step (i := 1) (by kernel_rfl) rfl (fun K0 hK => ?_)
    go_simp
    refine (spec_ControlBytes sq ar ls nx pg _).mono ?_
    rintro e y1 ⟨s1, rfl, o1, b1⟩
    obtain ⟨p1, d1, rfl, rp1, -⟩ := Reads.own o1 HBY.out
    have RP1 := hid rp1
    have Y1 := hid (((Below.refl U.heap.size U).drew).trans (b1.mono (Nat.le_refl _)))
    clear rp1 o1 b1
    go_wp2_with fail
    refine hK.out _ _ ?_ (fun hH2 => ?_)
    · exact HK.out _ Y1.out
    clear hK K0 hHeld
    have hHeld := hH2
    clear hH2
    try simp only [Act.put]
    try simp only [List.setIfInBounds_toArray]
    try simp only [List.set_cons_succ, List.set_cons_zero]
    refine anyK_more (fun X => (RowC X (w.heap.size + 1) #[.int .i64 sq, .int .i64 ar, .int .i64 ls, .int .i64 nx, .int .i64 pg] 25 ∧ (convert 22 9 (.slice (some ⟨b, off, none⟩) 64 cap)).run Try.prog X = .ok (.string (str zs)) X) ∧ (convert 22 9 (.slice p1 (ctlL sq ar ls nx pg).length d1)).run Try.prog X = .ok (.string (str (ctlL sq ar ls nx pg))) X) (fun _ h => h.1) ⟨HK.out _ Y1.out, RP1.out.str d1 22 Try.underlying22 Try.underlying5 Try.underlying9⟩ (fun hH3 => ?_)
    clear hHeld
    have hHeld := hH3
    clear hH3
    refine anyK_take2 (i := 2) (v := ?v2n) rfl (by kernel_rfl) (by kernel_rfl) (by kernel_rfl) (by kernel_rfl) (fun _ _ _ h => h) (by rfl) hHeld ?hy2n (some 39) (by rfl) ?rest2n
    case hy2n => (intro W hSw; obtain ⟨q1, q2⟩ := hSw; go_simp; (try with_reducible rfl))
    try simp only [Act.put]
    try simp only [List.setIfInBounds_toArray]
    try simp only [List.set_cons_succ, List.set_cons_zero]
    refine anyK_take2 (i := 5) (v := ?v5n) rfl (by kernel_rfl) (by kernel_rfl) (by kernel_rfl) (by kernel_rfl) (fun _ _ _ h => h) (by rfl) hHeld ?hy5n (some 42) (by rfl) ?rest5n
    case hy5n => (intro W hSw; (try dsimp only at hSw); go_simp; (try with_reducible rfl))
    try simp only [Act.put]
    try simp only [List.setIfInBounds_toArray]
    try simp only [List.set_cons_succ, List.set_cons_zero]
    refine anyK_done (by kernel_rfl) ?_ _
    clear hHeld
    have R0 := hid ((Y1.out.block w.heap.size (by have := HZ.out; omega)).trans H0.out)
    have R1 := hid ((Y1.out.block (w.heap.size + 1) (by have := HZ.out; omega)).trans H1.out)
    have B6 := hid (HB.out.trans (Y1.out.mono HB.out.size))
    clear H0 H1 HB
    go_wp2_with (refine wpList_store_row rfl 25 (.tmp 2) (.tmp 43) rfl w.heap.size #[.int .i64 0, .int .i64 0, .int .i64 0, .int .i64 0, .int .i64 0] rfl rfl 25 _ R0.out ?s7b ?s8b ?s9b ?_)
    case s7b => exact size_ct
    case s8b => rfl
    case s9b => simp [Value.oneCell']
    refine bodyPost_ret (results_cell_tmp17 Try.results16 _ _ w.heap.size 25 #[.int .i64 0, .int .i64 0, .int .i64 0, .int .i64 0, .int .i64 0] (0, 0) _ rfl (setRow_heap _ _ _ _ _ _ R0.out) Try.underlying25 rfl size_ct) rfl ⟨?_, below_setRow B6.out (Nat.le_refl _) _⟩
    rw [HY.out, rdC_no HY.out]
    rfl
end Go.Proofs.Ytplbejipkaionaa
