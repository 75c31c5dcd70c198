/- The program's ReplyText. Conditions: texts and rows of at most 2^20; the library's table of powers of ten is as its text lays it. -/
import Derived.Test.YtoppccfgcccijaaDoorRf18
import Derived.Test.YtoppccfgcccijaaDoorShc18
import Derived.Test.YtoppccfgcccijaaDoorRa18
namespace Go.Proofs.YtoppccfgcccijaaDoor
open Go.RowKit
set_option maxRecDepth 100000

theorem own_apart18 {w : World} {base n g s : Nat} {e t : TypeId} {v : Value} {xs : List Value} {cs : Array Value} {fz : Nat × Nat} (h : w.ownsRow base e s v n xs) (hg : w.heap[g]? = some (.cells cs t fz)) (hne : t ≠ e) : some g ≠ v.ownBlock := by
  intro q
  rcases h.2 with ⟨rfl, _⟩ | ⟨g', c, cur, rfl, _, hh, _⟩
  · simp [Value.ownBlock] at q
  · simp only [Value.ownBlock, Option.some.injEq] at q
    subst q
    rw [hg] at hh
    simp only [Option.some.injEq, Obj.cells.injEq] at hh
    exact hne hh.2.1
def strV (ws : List (List Int)) : List Value := ws.map (fun u => Value.string (str u))
theorem strV_app (a b : List (List Int)) : strV (a ++ b) = strV a ++ strV b := by simp [strV]
theorem strV_len (a : List (List Int)) : (strV a).length = a.length := by simp [strV]
theorem ReadsM.bytes18 {w : World} {ad : Option Addr} {es : List Im} (h : ReadsM w ad es) (j : Nat) : byteL (es.getD j im0).Z := by
  by_cases hj : j < es.length
  · obtain ⟨b, off, a, c, _, _, q, _⟩ := h.at hj
    exact q.bd
  · rw [List.getD_eq_getElem?_getD, List.getElem?_eq_none (by omega)]
    exact fun i => by simp [im0]
theorem tailW_byte {ws : List (List Int)} (h : ∀ u ∈ ws, byteL u) : byteL (tailW ws) := byteL_of (fun z hz => by
  obtain ⟨u, hu, hz⟩ := List.mem_flatMap.1 hz
  rcases List.mem_cons.1 hz with rfl | hz
  · omega
  · exact (h u hu).mem z hz)
theorem rowW_byte {es : List Im} (hN : ∀ j, -9223372036854775808 ≤ (es.getD j im0).N ∧ (es.getD j im0).N ≤ 9223372036854775807) (hZ : ∀ j, byteL (es.getD j im0).Z) (k : Nat) : byteL (rowW es k) :=
  (itW_byte (hN _) (hZ _)).app (byteL.cons (by omega) (itW_byte (hN _) (hZ _)))
theorem txtR_byte {se kd co nn K N : Int} {f : Nat} {zs : List Int} {tot : Nat} {es : List Im} {m : Nat} (hse : -9223372036854775808 ≤ se ∧ se ≤ 9223372036854775807) (hkd : -9223372036854775808 ≤ kd ∧ kd ≤ 9223372036854775807) (hnn : -9223372036854775808 ≤ nn ∧ nn ≤ 9223372036854775807) (hN : -9223372036854775808 ≤ N ∧ N ≤ 9223372036854775807) (hz : byteL zs) (_htot : tot < 18446744073709551616) (hNs : ∀ j, -9223372036854775808 ≤ (es.getD j im0).N ∧ (es.getD j im0).N ≤ 9223372036854775807) (hZ : ∀ j, byteL (es.getD j im0).Z) : byteL (txtR se kd co nn K N f zs tot es m) := by
  rw [txtR_eq]
  refine byteL.app ?_ (tailW_byte (fun u hu => ?_))
  · refine byteL.app (codeW_byte co) (tailW_byte (fun u hu => ?_))
    simp only [List.mem_cons, List.not_mem_nil, or_false] at hu
    rcases hu with rfl | rfl | rfl | rfl | rfl
    · exact decI_byteR hse
    · exact decI_byteR hkd
    · exact decI_byteR hnn
    · exact itW_byte hN hz
    · exact fun i => hexB_byte (fun i => hi8_bd (fbits tot) 8 i) i
  · obtain ⟨j, _, rfl⟩ := List.mem_map.1 hu
    exact rowW_byte hNs hZ j
theorem cat_exec18 {P : Program} {o : Oper} {a : Act} {W : World} {x y : Operand} {s t : ByteArray} (ho : o.op = .binOp .add 9 x y 9) (hx : a.eval x = .string s ∧ a.eval y = .string t) (hs : (s.size : Int) ≤ 8388608 ∧ (t.size : Int) ≤ 8388608) : (execOp a.eval o).run P W = .ok (.value (.string (s ++ t))) W := by
  unfold execOp
  simp [ho, hx.1, hx.2, eqGuard, binOp_string_add, run_string_add _ _ _ hs.1 hs.2]
theorem join_cells18 (u : List Int) (ws : List (List Int)) : Lib.join ((u :: ws).map (fun v => us v)) [32] = us (joinW (u :: ws)) := by
  rw [List.map_cons, Lib.join_cons]
  show us u ++ Lib.joinTail [32] (ws.map fun v => us v) = us (u ++ tailW ws)
  rw [us_app18]
  congr 1
  induction ws with
  | nil => rfl
  | cons v ws ih =>
    simp only [Lib.joinTail, List.map_cons, List.flatten_cons] at ih ⊢
    rw [ih]
    show ([32] ++ us v) ++ us (tailW ws) = us (tailW ([v] ++ ws))
    rw [tailW_app, us_app18]
    congr 1
    simp [tailW, us]
theorem Tryd.infoStr18 : (Tryd.prog.info? 9).map (fun i => (i.zero, i.size, i.bytes)) = some (some (.string ⟨#[]⟩), 1, 16) := by kernel_rfl
theorem step_appendS18 {ops : Array Oper} {o : Oper} {a : Act} {w : World} {K : Act → World → Prop} {Q : Exit → Act → World → Prop} {E : Prop} (hgd : o.guard = none) (s x : Operand)
    (ho : o.op = .call { callee := .builtin .append, args := #[s, x], argTypes := #[73, 73] })
    (base : Nat) (v : Value) (n : Nat) (xs : List Value) (hs : a.eval s = v) (hown : w.ownsRow base 9 1 v n xs)
    (ad : Addr) (u : ByteArray) (c : Nat) (hx : a.eval x = .slice (some ad) 1 c) (hnews : ∀ j y, [Value.string u][j]? = some y → w.cell? (ad.add j) = some y)
    (h63 : n ≤ 4000000) (hbase : base ≤ w.heap.size)
    (h : ∀ a' cap w', w'.ownsRow base 9 1 (.slice a' (n + 1) cap) (n + 1) (xs ++ [.string u]) → w.grownBy w' v.ownBlock → ((Value.slice a' (n + 1) cap).ownBlock = v.ownBlock ∨ (Value.slice a' (n + 1) cap).ownBlock = some w.heap.size) → K (a.put o.dst (.slice a' (n + 1) cap)) w') :
    if Region.wanted o (yielded ops a.tmps) = true then Oper.wp Tryd.prog o a w K Q else E := by
  obtain ⟨i0, hi, hz0, hz1, hz2⟩ := info_parts Tryd.infoStr18
  exact step_append18 hgd s x 73 ho base 9 i0 (.string ⟨#[]⟩) 1 16 Tryd.underlying73 hi hz0 hz1 hz2 rfl (by decide) v n xs hs hown ad 1 c [.string u] hx rfl hnews (fun y hy => by simp at hy; subst hy; rfl) (by unfold maxLen; omega) (by omega) hbase h
set_option maxHeartbeats 12800000 in
theorem impl_ReplyText (se kd co nn K N : Int) (f : Nat) {ad : Option Addr} {n : Nat} (c : Nat) {ar : Option Addr} {m : Nat} (cr : Nat) (tot : Nat) {zs : List Int} {es : List Im} {w : World} (r1 : Reads w ad n zs) (r2 : ReadsM w ar es) (hl : es.length = m * 2) (hn : n ≤ 2097152) (hm : m ≤ 1048576) (hz : ∀ j, (es.getD j im0).Z.length ≤ 2097152) (hN : -9223372036854775808 ≤ N ∧ N ≤ 9223372036854775807) (hse : -9223372036854775808 ≤ se ∧ se ≤ 9223372036854775807) (hkd : -9223372036854775808 ≤ kd ∧ kd ≤ 9223372036854775807) (hnn : -9223372036854775808 ≤ nn ∧ nn ≤ 9223372036854775807) (hNs : ∀ j, -9223372036854775808 ≤ (es.getD j im0).N ∧ (es.getD j im0).N ≤ 9223372036854775807) (hf : f < 18446744073709551616) (htot : tot < 18446744073709551616) (ht : PowT w) :
    Calls Tryd.prog 22 #[.agg #[.int .i64 se, .int .i64 kd, .int .i64 co, .int .i64 nn, .int .i64 K, .int .i64 N, .float .f64 f, .slice ad n c, .slice ar m cr, .float .f64 tot]] w fun e w' => ∃ v, e = .returned v ∧ OwF w.heap.size w' v (txtR se kd co nn K N f zs tot es m).length (bys (txtR se kd co nn K N f zs tot es m)) ∧ Below w.heap.size w w' := by
  have hst1 := fun w a m => run_store Tryd.prog w a (.float .f64 f) m rfl
  have hst2 := fun w a m => run_store Tryd.prog w a (.float .f64 tot) m rfl
  have hB := Below.alloc1 w (.cells #[.int .i64 se, .int .i64 kd, .int .i64 co, .int .i64 nn, .int .i64 K, .int .i64 N, .float .f64 f, .slice ad n c, .slice ar m cr, .float .f64 tot] 46)
  have HB0 := hid hB
  have HR0 := hid (heap_alloc_new w (.cells #[.int .i64 se, .int .i64 kd, .int .i64 co, .int .i64 nn, .int .i64 K, .int .i64 N, .float .f64 f, .slice ad n c, .slice ar m cr, .float .f64 tot] 46))
  have HA0 := hid (r1.below hB (Nat.le_refl _))
  have HM0 := hid (r2.below hB (Nat.le_refl _))
  have HP0 := hid (ht.below hB (Nat.le_refl _))
  have HZ0 := hid (show w.heap.size + 1 ≤ _ from Nat.le_of_eq (alloc_size w (.cells #[.int .i64 se, .int .i64 kd, .int .i64 co, .int .i64 nn, .int .i64 K, .int .i64 N, .float .f64 f, .slice ad n c, .slice ar m cr, .float .f64 tot] 46)).symm)
  have HBy := hid r1.bd
  have HL := hid hl
  have HZs := hid hz
  have HNs := hid hNs
  have HZb := hid (fun j => show byteL (es.getD j im0).Z from r2.bytes18 j)
  clear hB r1 r2 ht hl hz hNs
  go_enter Tryd.func22, Tryd.ntmps22
  go_wp2_with fail
  obtain ⟨U0, hU⟩ : ∃ U, w.alloc (.cells #[.int .i64 se, .int .i64 kd, .int .i64 co, .int .i64 nn, .int .i64 K, .int .i64 N, .float .f64 f, .slice ad n c, .slice ar m cr, .float .f64 tot] 46) = U := ⟨_, rfl⟩
  rw [hU] at HB0 HR0 HA0 HM0 HP0 HZ0
  try rw [hU]
  clear hU
  obtain ⟨p, hp⟩ : ∃ p, w.heap.size = p := ⟨_, rfl⟩
  have HPp := hid hp
  rw [hp] at HR0 HZ0
  try simp only [hp]
  clear hp
  have HS := hid (fun (W : World) (h : W.heap[p]? = some (.cells #[.int .i64 se, .int .i64 kd, .int .i64 co, .int .i64 nn, .int .i64 K, .int .i64 N, .float .f64 f, .slice ad n c, .slice ar m cr, .float .f64 tot] 46)) => show  W.cell? ⟨p, 0, none⟩ = some (.int .i64 se) ∧ W.cell? ⟨p, 1, none⟩ = some (.int .i64 kd) ∧ W.cell? ⟨p, 2, none⟩ = some (.int .i64 co) ∧ W.cell? ⟨p, 3, none⟩ = some (.int .i64 nn) ∧ W.cell? ⟨p, 4, none⟩ = some (.int .i64 K) ∧ W.cell? ⟨p, 5, none⟩ = some (.int .i64 N) ∧ W.cell? ⟨p, 6, none⟩ = some (.float .f64 f) ∧ W.cell? ⟨p, 7, none⟩ = some (.slice ad n c) ∧ W.cell? ⟨p, 9, none⟩ = some (.float .f64 tot)  from ⟨by rw [cell_of_row _ _ _ _ _ _ h]; rfl, by rw [cell_of_row _ _ _ _ _ _ h]; rfl, by rw [cell_of_row _ _ _ _ _ _ h]; rfl, by rw [cell_of_row _ _ _ _ _ _ h]; rfl, by rw [cell_of_row _ _ _ _ _ _ h]; rfl, by rw [cell_of_row _ _ _ _ _ _ h]; rfl, by rw [cell_of_row _ _ _ _ _ _ h]; rfl, by rw [cell_of_row _ _ _ _ _ _ h]; rfl, by rw [cell_of_row _ _ _ _ _ _ h]; rfl⟩)
  have HF := hid ((Still.drew U0).below U0.heap.size)
  have HRow := hid (fun W (b : Below U0.heap.size U0 W) => (b.block p (by have := HZ0.out; omega)).trans HR0.out)
  refine region_K 99 (fun W =>  W.cell? ⟨p, 0, none⟩ = some (.int .i64 se) ∧ W.cell? ⟨p, 1, none⟩ = some (.int .i64 kd) ∧ W.cell? ⟨p, 2, none⟩ = some (.int .i64 co) ∧ W.cell? ⟨p, 3, none⟩ = some (.int .i64 nn) ∧ W.cell? ⟨p, 4, none⟩ = some (.int .i64 K) ∧ W.cell? ⟨p, 5, none⟩ = some (.int .i64 N) ∧ W.cell? ⟨p, 6, none⟩ = some (.float .f64 f) ∧ W.cell? ⟨p, 7, none⟩ = some (.slice ad n c) ∧ W.cell? ⟨p, 9, none⟩ = some (.float .f64 tot) ) (by kernel_rfl) (HS.out _ (HRow.out _ HF.out)) (fun hHeld => ?_)
  generalize U0.drew = v0 at *
  refine anyK_take2 (i := 0) (v := ?v0_1) rfl (by kernel_rfl) (by kernel_rfl) (by kernel_rfl) (by rfl) (fun _ _ _ h => h) (by rfl) hHeld ?hy0_1 (some 6) (by rfl) ?rest0_1
  case hy0_1 => (intro W hSw; obtain ⟨x0, x1, x2, x3, x4, x5, x6, x7, x9⟩ := hSw; go_simp; (try with_reducible rfl))
  (try simp only [Act.put]); (try simp only [List.setIfInBounds_toArray]); (try simp only [List.set_cons_succ]); (try simp only [List.set_cons_zero])
  refine anyK_take2 (i := 1) (v := ?v1_2) rfl (by kernel_rfl) (by kernel_rfl) (by kernel_rfl) (by rfl) (fun _ _ _ h => h) (by rfl) hHeld ?hy1_2 (some 7) (by rfl) ?rest1_2
  case hy1_2 => (intro W hSw; obtain ⟨x0, x1, x2, x3, x4, x5, x6, x7, x9⟩ := hSw; go_simp; (try with_reducible rfl))
  (try simp only [Act.put]); (try simp only [List.setIfInBounds_toArray]); (try simp only [List.set_cons_succ]); (try simp only [List.set_cons_zero])
  refine anyK_take2 (i := 3) (v := ?v3_3) rfl (by kernel_rfl) (by kernel_rfl) (by kernel_rfl) (by rfl) (fun _ _ _ h => h) (by rfl) hHeld ?hy3_3 (some 9) (by rfl) ?rest3_3
  case hy3_3 => (intro W hSw; obtain ⟨x0, x1, x2, x3, x4, x5, x6, x7, x9⟩ := hSw; go_simp; (try with_reducible rfl))
  (try simp only [Act.put]); (try simp only [List.setIfInBounds_toArray]); (try simp only [List.set_cons_succ]); (try simp only [List.set_cons_zero])
  refine anyK_take2 (i := 4) (v := ?v4_4) rfl (by kernel_rfl) (by kernel_rfl) (by kernel_rfl) (by rfl) (fun _ _ _ h => h) (by rfl) hHeld ?hy4_4 (some 10) (by rfl) ?rest4_4
  case hy4_4 => (intro W hSw; obtain ⟨x0, x1, x2, x3, x4, x5, x6, x7, x9⟩ := hSw; go_simp; (try with_reducible rfl))
  (try simp only [Act.put]); (try simp only [List.setIfInBounds_toArray]); (try simp only [List.set_cons_succ]); (try simp only [List.set_cons_zero])
  refine anyK_take2 (i := 6) (v := ?v6_5) rfl (by kernel_rfl) (by kernel_rfl) (by kernel_rfl) (by rfl) (fun _ _ _ h => h) (by rfl) hHeld ?hy6_5 (some 12) (by rfl) ?rest6_5
  case hy6_5 => (intro W hSw; obtain ⟨x0, x1, x2, x3, x4, x5, x6, x7, x9⟩ := hSw; go_simp; (try with_reducible rfl))
  (try simp only [Act.put]); (try simp only [List.setIfInBounds_toArray]); (try simp only [List.set_cons_succ]); (try simp only [List.set_cons_zero])
  refine anyK_take2 (i := 7) (v := ?v7_6) rfl (by kernel_rfl) (by kernel_rfl) (by kernel_rfl) (by rfl) (fun _ _ _ h => h) (by rfl) hHeld ?hy7_6 (some 13) (by rfl) ?rest7_6
  case hy7_6 => (intro W hSw; obtain ⟨x0, x1, x2, x3, x4, x5, x6, x7, x9⟩ := hSw; go_simp; (try with_reducible rfl))
  (try simp only [Act.put]); (try simp only [List.setIfInBounds_toArray]); (try simp only [List.set_cons_succ]); (try simp only [List.set_cons_zero])
  refine anyK_take2 (i := 9) (v := ?v9_7) rfl (by kernel_rfl) (by kernel_rfl) (by kernel_rfl) (by rfl) (fun _ _ _ h => h) (by rfl) hHeld ?hy9_7 (some 15) (by rfl) ?rest9_7
  case hy9_7 => (intro W hSw; obtain ⟨x0, x1, x2, x3, x4, x5, x6, x7, x9⟩ := hSw; go_simp; (try with_reducible rfl))
  (try simp only [Act.put]); (try simp only [List.setIfInBounds_toArray]); (try simp only [List.set_cons_succ]); (try simp only [List.set_cons_zero])
  refine anyK_take2 (i := 10) (v := ?v10_8) rfl (by kernel_rfl) (by kernel_rfl) (by kernel_rfl) (by rfl) (fun _ _ _ h => h) (by rfl) hHeld ?hy10_8 (some 16) (by rfl) ?rest10_8
  case hy10_8 => (intro W hSw; obtain ⟨x0, x1, x2, x3, x4, x5, x6, x7, x9⟩ := hSw; go_simp; (try with_reducible rfl))
  (try simp only [Act.put]); (try simp only [List.setIfInBounds_toArray]); (try simp only [List.set_cons_succ]); (try simp only [List.set_cons_zero])
  refine anyK_take2 (i := 12) (v := ?v12_9) rfl (by kernel_rfl) (by kernel_rfl) (by kernel_rfl) (by rfl) (fun _ _ _ h => h) (by rfl) hHeld ?hy12_9 (some 18) (by rfl) ?rest12_9
  case hy12_9 => (intro W hSw; obtain ⟨x0, x1, x2, x3, x4, x5, x6, x7, x9⟩ := hSw; go_simp; (try with_reducible rfl))
  (try simp only [Act.put]); (try simp only [List.setIfInBounds_toArray]); (try simp only [List.set_cons_succ]); (try simp only [List.set_cons_zero])
  refine anyK_take2 (i := 13) (v := ?v13_10) rfl (by kernel_rfl) (by kernel_rfl) (by kernel_rfl) (by rfl) (fun _ _ _ h => h) (by rfl) hHeld ?hy13_10 (some 19) (by rfl) ?rest13_10
  case hy13_10 => (intro W hSw; obtain ⟨x0, x1, x2, x3, x4, x5, x6, x7, x9⟩ := hSw; go_simp; (try with_reducible rfl))
  (try simp only [Act.put]); (try simp only [List.setIfInBounds_toArray]); (try simp only [List.set_cons_succ]); (try simp only [List.set_cons_zero])
  refine anyK_take2 (i := 15) (v := ?v15_11) rfl (by kernel_rfl) (by kernel_rfl) (by kernel_rfl) (by rfl) (fun _ _ _ h => h) (by rfl) hHeld ?hy15_11 (some 21) (by rfl) ?rest15_11
  case hy15_11 => (intro W hSw; obtain ⟨x0, x1, x2, x3, x4, x5, x6, x7, x9⟩ := hSw; go_simp; (try with_reducible rfl))
  (try simp only [Act.put]); (try simp only [List.setIfInBounds_toArray]); (try simp only [List.set_cons_succ]); (try simp only [List.set_cons_zero])
  refine anyK_take2 (i := 16) (v := ?v16_12) rfl (by kernel_rfl) (by kernel_rfl) (by kernel_rfl) (by rfl) (fun _ _ _ h => h) (by rfl) hHeld ?hy16_12 (some 22) (by rfl) ?rest16_12
  case hy16_12 => (intro W hSw; obtain ⟨x0, x1, x2, x3, x4, x5, x6, x7, x9⟩ := hSw; go_simp; (try with_reducible rfl))
  (try simp only [Act.put]); (try simp only [List.setIfInBounds_toArray]); (try simp only [List.set_cons_succ]); (try simp only [List.set_cons_zero])
  refine anyK_step (i := 2) (by kernel_rfl) rfl (fun KP hK => ?_)
  go_simp
  refine (impl_codeWord co (HP0.out.below HF.out (Nat.le_refl _))).mono ?_
  rintro e v1 ⟨rfl, b⟩
  replace HF := hid (HF.out.trans (b.mono HF.out.size))
  clear b
  go_wp2_with fail
  clear hHeld
  refine hK.out _ _ (HS.out _ (HRow.out _ HF.out)) (fun hHeld => ?_)
  clear hK KP
  (try simp only [Act.put]); (try simp only [List.setIfInBounds_toArray]); (try simp only [List.set_cons_succ]); (try simp only [List.set_cons_zero])
  refine anyK_step (i := 5) (by kernel_rfl) rfl (fun KP hK => ?_)
  go_simp
  refine (impl_Itoa se hse (HP0.out.below HF.out (Nat.le_refl _))).mono ?_
  rintro e v2 ⟨rfl, b⟩
  replace HF := hid (HF.out.trans (b.mono HF.out.size))
  clear b
  go_wp2_with fail
  clear hHeld
  refine hK.out _ _ (HS.out _ (HRow.out _ HF.out)) (fun hHeld => ?_)
  clear hK KP
  (try simp only [Act.put]); (try simp only [List.setIfInBounds_toArray]); (try simp only [List.set_cons_succ]); (try simp only [List.set_cons_zero])
  refine anyK_step (i := 8) (by kernel_rfl) rfl (fun KP hK => ?_)
  go_simp
  refine (impl_Itoa kd hkd (HP0.out.below HF.out (Nat.le_refl _))).mono ?_
  rintro e v3 ⟨rfl, b⟩
  replace HF := hid (HF.out.trans (b.mono HF.out.size))
  clear b
  go_wp2_with fail
  clear hHeld
  refine hK.out _ _ (HS.out _ (HRow.out _ HF.out)) (fun hHeld => ?_)
  clear hK KP
  (try simp only [Act.put]); (try simp only [List.setIfInBounds_toArray]); (try simp only [List.set_cons_succ]); (try simp only [List.set_cons_zero])
  refine anyK_step (i := 11) (by kernel_rfl) rfl (fun KP hK => ?_)
  go_simp
  refine (impl_Itoa nn hnn (HP0.out.below HF.out (Nat.le_refl _))).mono ?_
  rintro e v4 ⟨rfl, b⟩
  replace HF := hid (HF.out.trans (b.mono HF.out.size))
  clear b
  go_wp2_with fail
  clear hHeld
  refine hK.out _ _ (HS.out _ (HRow.out _ HF.out)) (fun hHeld => ?_)
  clear hK KP
  (try simp only [Act.put]); (try simp only [List.setIfInBounds_toArray]); (try simp only [List.set_cons_succ]); (try simp only [List.set_cons_zero])
  refine anyK_step (i := 14) (by kernel_rfl) rfl (fun KP hK => ?_)
  go_simp
  refine (impl_anyItemWord K N f c (HA0.out.below HF.out (Nat.le_refl _)) hn hN hf (HP0.out.below HF.out (Nat.le_refl _))).mono ?_
  rintro e v5 ⟨rfl, b⟩
  replace HF := hid (HF.out.trans (b.mono HF.out.size))
  clear b
  go_wp2_with fail
  clear hHeld
  refine hK.out _ _ (HS.out _ (HRow.out _ HF.out)) (fun hHeld => ?_)
  clear hK KP
  (try simp only [Act.put]); (try simp only [List.setIfInBounds_toArray]); (try simp only [List.set_cons_succ]); (try simp only [List.set_cons_zero])
  refine anyK_step (i := 17) (by kernel_rfl) rfl (fun KP hK => ?_)
  go_simp
  refine (impl_floatWord tot htot _).mono ?_
  rintro e v6 ⟨rfl, b⟩
  replace HF := hid (HF.out.trans (b.mono HF.out.size))
  clear b
  go_wp2_with fail
  clear hHeld
  refine hK.out _ _ (HS.out _ (HRow.out _ HF.out)) (fun hHeld => ?_)
  clear hK KP
  (try simp only [Act.put]); (try simp only [List.setIfInBounds_toArray]); (try simp only [List.set_cons_succ]); (try simp only [List.set_cons_zero])
  refine anyK_step (i := 18) (by kernel_rfl) rfl (fun KP hK => ?_)
  go_simp
  have HN := hid (heap_alloc_new v6 (.cells #[.string (str (codeW co)), .string (str (decI se)), .string (str (decI kd)), .string (str (decI nn)), .string (str (itW K N f zs)), .string (str (hexB (hi8 (fbits tot) 8)))] 9))
  have HFa := hid (HF.out.trans ((Below.alloc1 v6 (.cells #[.string (str (codeW co)), .string (str (decI se)), .string (str (decI kd)), .string (str (decI nn)), .string (str (itW K N f zs)), .string (str (hexB (hi8 (fbits tot) 8)))] 9)).mono HF.out.size))
  clear hHeld
  refine hK.out _ _ (HS.out _ (HRow.out _ HFa.out)) (fun hHeld => ?_)
  clear hK KP
  (try simp only [Act.put]); (try simp only [List.setIfInBounds_toArray]); (try simp only [List.set_cons_succ]); (try simp only [List.set_cons_zero])
  refine anyK_take2 (i := 19) (v := ?v19_13) rfl (by kernel_rfl) (by kernel_rfl) (by kernel_rfl) (by rfl) (fun _ _ _ h => h) (by rfl) hHeld ?hy19_13 (some 3) (by rfl) ?rest19_13
  case hy19_13 => (intro W hSw; obtain ⟨x0, x1, x2, x3, x4, x5, x6, x7, x9⟩ := hSw; go_simp; (try with_reducible rfl))
  (try simp only [Act.put]); (try simp only [List.setIfInBounds_toArray]); (try simp only [List.set_cons_succ]); (try simp only [List.set_cons_zero])
  refine anyK_done (by kernel_rfl) ?_ _
  clear hHeld
  have HO := hid (show (v6.alloc (.cells #[.string (str (codeW co)), .string (str (decI se)), .string (str (decI kd)), .string (str (decI nn)), .string (str (itW K N f zs)), .string (str (hexB (hi8 (fbits tot) 8)))] 9)).ownsRow U0.heap.size 9 1 (.slice (some ⟨v6.heap.size, 0, none⟩) 6 6) 6 (strV (headW se kd co nn K N f zs tot)) from ⟨rfl, .inr ⟨v6.heap.size, 6, _, rfl, HF.out.size, HN.out, Nat.le_refl _, by unfold maxLen; omega, rfl, rfl⟩⟩)
  have HR7 := hid (HRow.out _ HFa.out)
  clear HN
  generalize v6.alloc (.cells #[.string (str (codeW co)), .string (str (decI se)), .string (str (decI kd)), .string (str (decI nn)), .string (str (itW K N f zs)), .string (str (hexB (hi8 (fbits tot) 8)))] 9) = v7 at *
  generalize v6.heap.size = g3 at *
  have c8 : v7.cell? ⟨p, 8, none⟩ = some (.slice ar m cr) := by rw [cell_of_row _ _ _ _ _ _ HR7.out]; rfl
  have HHd := hid (show (headW se kd co nn K N f zs tot).length = 6 from rfl)
  obtain ⟨HW, hHW⟩ : ∃ HW, headW se kd co nn K N f zs tot = HW := ⟨_, rfl⟩
  rw [hHW] at HO HHd
  have HHW := hid hHW
  clear hHW
  go_wp2_with fail
  clear c8
  go_loopw [3, 28] (fun v s wr => ∃ k : Nat, k ≤ m ∧ s = .int .i64 (k : Int) ∧ Hid (wr.ownsRow U0.heap.size 9 1 v (6 + k) (strV (HW ++ rowsW es k))) ∧ Hid (Below U0.heap.size U0 wr)) (fun _ s _ => m - (intOf s).toNat)
  case atStart => exact ⟨0, Nat.zero_le _, rfl, hid (by simpa [rowsW] using HO.out), HFa⟩
  case round =>
    obtain ⟨k, hk, rfl, HOk, HFk⟩ := hrel
    have hsz := HFk.out.size
    by_cases hlt : k < m
    · have hlt' : (k : Int) < (m : Int) := by omega
      have hk0 : (0 : Int) ≤ (k : Int) := by omega
      have hM := HM0.out.below HFk.out (Nat.le_refl _)
      obtain ⟨b, off, a1, d1, rfl, bx1, q1⟩ := hM.at (k := k * 2) (by have := HL.out; omega)
      obtain ⟨b', off', a2, d2, e2, bx2, q2⟩ := hM.at (k := k * 2 + 1) (by have := HL.out; omega)
      obtain ⟨hbb, hoo⟩ : b = b' ∧ off = off' := by simpa using e2
      subst hbb hoo
      rw [show off + k * 2 * 4 = off + k * 8 by omega] at bx1
      rw [show off + (k * 2 + 1) * 4 = off + k * 8 + 4 by omega] at bx2
      have f1 := HM0.out.fl (k * 2)
      have f2 := HM0.out.fl (k * 2 + 1)
      have z1 := HZs.out (k * 2)
      have z2 := HZs.out (k * 2 + 1)
      have y1 := HNs.out (k * 2)
      have y2 := HNs.out (k * 2 + 1)
      have HRw := hid (show rowW es k = imW (es.getD (k * 2) im0) ++ 61 :: imW (es.getD (k * 2 + 1) im0) from rfl)
      have HSc := hid (rowsW_succ es k)
      generalize rowW es k = RW at *
      generalize es.getD (k * 2) im0 = E1 at *
      generalize es.getD (k * 2 + 1) im0 = E2 at *
      obtain ⟨K1, N1, F1, Z1⟩ := E1
      obtain ⟨K2, N2, F2, Z2⟩ := E2
      simp only at bx1 bx2 q1 q2 f1 f2 z1 z2 y1 y2
      obtain ⟨m1, hm1⟩ : ∃ m, Z1.length = m := ⟨_, rfl⟩
      obtain ⟨m2, hm2⟩ : ∃ m, Z2.length = m := ⟨_, rfl⟩
      rw [hm1] at bx1 q1 z1
      rw [hm2] at bx2 q2 z2
      have k0 := bx1.c0
      have k1 := bx1.c1
      have k2 := bx1.c2
      have k3 := bx1.c3
      have k4 := bx2.c0
      have k5 := bx2.c1
      have k6 := bx2.c2
      have k7 := bx2.c3
      rw [show off + k * 8 + 4 + 1 = off + k * 8 + 5 by omega] at k5
      rw [show off + k * 8 + 4 + 2 = off + k * 8 + 6 by omega] at k6
      rw [show off + k * 8 + 4 + 3 = off + k * 8 + 7 by omega] at k7
      have hst3 := fun w a m => run_store Tryd.prog w a (.float .f64 F1) m rfl
      have hst4 := fun w a m => run_store Tryd.prog w a (.float .f64 F2) m rfl
      have HRg := hid (show wr.rangeAt b (off + k * 8) [.int .i64 K1, .int .i64 N1, .float .f64 F1, .slice a1 m1 d1, .int .i64 K2, .int .i64 N2, .float .f64 F2, .slice a2 m2 d2] from fun j v hv => by
        rcases j with _ | _ | _ | _ | _ | _ | _ | _ | j
        all_goals first | (simp only [List.getElem?_cons_zero, List.getElem?_cons_succ, Option.some.injEq] at hv; subst hv; assumption) | simp at hv)
      have Q1 := hid q1
      have Q2 := hid q2
      clear k0 k1 k2 k3 k4 k5 k6 k7 bx1 bx2 q1 q2 hM e2
      have HBb := hid (HFk.out.trans ((Below.alloc1 wr (.cells #[.int .i64 K1, .int .i64 N1, .float .f64 F1, .slice a1 m1 d1, .int .i64 K2, .int .i64 N2, .float .f64 F2, .slice a2 m2 d2] 69)).mono HFk.out.size))
      have HNb := hid (heap_alloc_new wr (.cells #[.int .i64 K1, .int .i64 N1, .float .f64 F1, .slice a1 m1 d1, .int .i64 K2, .int .i64 N2, .float .f64 F2, .slice a2 m2 d2] 69))
      have HOb := hid (HOk.out.alloc (.cells #[.int .i64 K1, .int .i64 N1, .float .f64 F1, .slice a1 m1 d1, .int .i64 K2, .int .i64 N2, .float .f64 F2, .slice a2 m2 d2] 69))
      obtain ⟨ao, co', rfl⟩ := own_sl18 HOk.out
      go_wp2_with (refine wpList_load_mid rfl 69 (.tmp 30) rfl b (off + k * 8) rfl [.int .i64 K1, .int .i64 N1, .float .f64 F1, .slice a1 m1 d1, .int .i64 K2, .int .i64 N2, .float .f64 F2, .slice a2 m2 d2] _ HRg.out Tryd.underlying69 rfl ?li ?_)
      case li => exact size_pr18
      have HQ1 := hid (Q1.out.1.below (Below.alloc1 wr (.cells #[.int .i64 K1, .int .i64 N1, .float .f64 F1, .slice a1 m1 d1, .int .i64 K2, .int .i64 N2, .float .f64 F2, .slice a2 m2 d2] 69)) (Nat.le_refl _))
      have HQ2 := hid (Q2.out.1.below (Below.alloc1 wr (.cells #[.int .i64 K1, .int .i64 N1, .float .f64 F1, .slice a1 m1 d1, .int .i64 K2, .int .i64 N2, .float .f64 F2, .slice a2 m2 d2] 69)) (Nat.le_refl _))
      obtain ⟨U5, hU5⟩ : ∃ U, wr.alloc (.cells #[.int .i64 K1, .int .i64 N1, .float .f64 F1, .slice a1 m1 d1, .int .i64 K2, .int .i64 N2, .float .f64 F2, .slice a2 m2 d2] 69) = U := ⟨_, rfl⟩
      rw [hU5] at HBb HNb HOb HQ1 HQ2
      try rw [hU5]
      clear hU5
      obtain ⟨g5, hg5⟩ : ∃ g, wr.heap.size = g := ⟨_, rfl⟩
      rw [hg5] at HNb
      try simp only [hg5]
      clear hg5
      have HS5 := hid (fun (W : World) (h : W.heap[g5]? = some (.cells #[.int .i64 K1, .int .i64 N1, .float .f64 F1, .slice a1 m1 d1, .int .i64 K2, .int .i64 N2, .float .f64 F2, .slice a2 m2 d2] 69)) => show W.cell? ⟨g5, 0, none⟩ = some (.int .i64 K1) ∧ W.cell? ⟨g5, 1, none⟩ = some (.int .i64 N1) ∧ W.cell? ⟨g5, 2, none⟩ = some (.float .f64 F1) ∧ W.cell? ⟨g5, 3, none⟩ = some (.slice a1 m1 d1) ∧ W.cell? ⟨g5, 4, none⟩ = some (.int .i64 K2) ∧ W.cell? ⟨g5, 5, none⟩ = some (.int .i64 N2) ∧ W.cell? ⟨g5, 6, none⟩ = some (.float .f64 F2) ∧ W.cell? ⟨g5, 7, none⟩ = some (.slice a2 m2 d2) from ⟨by rw [cell_of_row _ _ _ _ _ _ h]; rfl, by rw [cell_of_row _ _ _ _ _ _ h]; rfl, by rw [cell_of_row _ _ _ _ _ _ h]; rfl, by rw [cell_of_row _ _ _ _ _ _ h]; rfl, by rw [cell_of_row _ _ _ _ _ _ h]; rfl, by rw [cell_of_row _ _ _ _ _ _ h]; rfl, by rw [cell_of_row _ _ _ _ _ _ h]; rfl, by rw [cell_of_row _ _ _ _ _ _ h]; rfl⟩)
      have HF5 := hid ((Still.drew U5).below U5.heap.size)
      have hlt5 : g5 < U5.heap.size := (Array.getElem?_eq_some_iff.1 HNb.out).1
      have HRow5 := hid (fun W (b : Below U5.heap.size U5 W) => (b.block g5 hlt5).trans HNb.out)
      have HFk5 := hid (fun W (b : Below U5.heap.size U5 W) => HBb.out.trans (b.mono HBb.out.size))
      clear hlt5
      refine region_K 99 (fun W => W.cell? ⟨g5, 0, none⟩ = some (.int .i64 K1) ∧ W.cell? ⟨g5, 1, none⟩ = some (.int .i64 N1) ∧ W.cell? ⟨g5, 2, none⟩ = some (.float .f64 F1) ∧ W.cell? ⟨g5, 3, none⟩ = some (.slice a1 m1 d1) ∧ W.cell? ⟨g5, 4, none⟩ = some (.int .i64 K2) ∧ W.cell? ⟨g5, 5, none⟩ = some (.int .i64 N2) ∧ W.cell? ⟨g5, 6, none⟩ = some (.float .f64 F2) ∧ W.cell? ⟨g5, 7, none⟩ = some (.slice a2 m2 d2)) (by kernel_rfl) (HS5.out _ (HRow5.out _ HF5.out)) (fun hHeld => ?_)
      generalize U5.drew = y0 at *
      refine anyK_take2 (i := 0) (v := ?v0_14) rfl (by kernel_rfl) (by kernel_rfl) (by kernel_rfl) (by rfl) (fun _ _ _ h => h) (by rfl) hHeld ?hy0_14 (some 32) (by rfl) ?rest0_14
      case hy0_14 => (intro W hSw; obtain ⟨x0, x1, x2, x3, x4, x5, x6, x7⟩ := hSw; go_simp; (try with_reducible rfl))
      (try simp only [Act.put]); (try simp only [List.setIfInBounds_toArray]); (try simp only [List.set_cons_succ]); (try simp only [List.set_cons_zero])
      refine anyK_take2 (i := 1) (v := ?v1_15) rfl (by kernel_rfl) (by kernel_rfl) (by kernel_rfl) (by rfl) (fun _ _ _ h => h) (by rfl) hHeld ?hy1_15 (some 33) (by rfl) ?rest1_15
      case hy1_15 => (intro W hSw; obtain ⟨x0, x1, x2, x3, x4, x5, x6, x7⟩ := hSw; go_simp; (try with_reducible rfl))
      (try simp only [Act.put]); (try simp only [List.setIfInBounds_toArray]); (try simp only [List.set_cons_succ]); (try simp only [List.set_cons_zero])
      refine anyK_take2 (i := 2) (v := ?v2_16) rfl (by kernel_rfl) (by kernel_rfl) (by kernel_rfl) (by rfl) (fun _ _ _ h => h) (by rfl) hHeld ?hy2_16 (some 34) (by rfl) ?rest2_16
      case hy2_16 => (intro W hSw; obtain ⟨x0, x1, x2, x3, x4, x5, x6, x7⟩ := hSw; go_simp; (try with_reducible rfl))
      (try simp only [Act.put]); (try simp only [List.setIfInBounds_toArray]); (try simp only [List.set_cons_succ]); (try simp only [List.set_cons_zero])
      refine anyK_take2 (i := 5) (v := ?v5_17) rfl (by kernel_rfl) (by kernel_rfl) (by kernel_rfl) (by rfl) (fun _ _ _ h => h) (by rfl) hHeld ?hy5_17 (some 37) (by rfl) ?rest5_17
      case hy5_17 => (intro W hSw; obtain ⟨x0, x1, x2, x3, x4, x5, x6, x7⟩ := hSw; go_simp; (try with_reducible rfl))
      (try simp only [Act.put]); (try simp only [List.setIfInBounds_toArray]); (try simp only [List.set_cons_succ]); (try simp only [List.set_cons_zero])
      refine anyK_take2 (i := 6) (v := ?v6_18) rfl (by kernel_rfl) (by kernel_rfl) (by kernel_rfl) (by rfl) (fun _ _ _ h => h) (by rfl) hHeld ?hy6_18 (some 38) (by rfl) ?rest6_18
      case hy6_18 => (intro W hSw; obtain ⟨x0, x1, x2, x3, x4, x5, x6, x7⟩ := hSw; go_simp; (try with_reducible rfl))
      (try simp only [Act.put]); (try simp only [List.setIfInBounds_toArray]); (try simp only [List.set_cons_succ]); (try simp only [List.set_cons_zero])
      refine anyK_step (i := 3) (by kernel_rfl) rfl (fun KP hK => ?_)
      go_simp
      refine (impl_anyItemWord K1 N1 F1 d1 (HQ1.out.below HF5.out (Nat.le_refl _)) z1 y1 f1 (HP0.out.below (HFk5.out _ HF5.out) (Nat.le_refl _))).mono ?_
      rintro e u1 ⟨rfl, b⟩
      replace HF5 := hid (HF5.out.trans (b.mono HF5.out.size))
      clear b
      go_wp2_with fail
      clear hHeld
      refine hK.out _ _ (HS5.out _ (HRow5.out _ HF5.out)) (fun hHeld => ?_)
      clear hK KP
      (try simp only [Act.put]); (try simp only [List.setIfInBounds_toArray]); (try simp only [List.set_cons_succ]); (try simp only [List.set_cons_zero])
      have HI1 := hid (itW_len K1 N1 F1 Z1)
      have HI2 := hid (itW_len K2 N2 F2 Z2)
      obtain ⟨A1, hA1⟩ : ∃ A, itW K1 N1 F1 Z1 = A := ⟨_, rfl⟩
      obtain ⟨A2, hA2⟩ : ∃ A, itW K2 N2 F2 Z2 = A := ⟨_, rfl⟩
      rw [hA1] at HI1
      rw [hA2] at HI2
      have HR2 := hid (show RW = A1 ++ 61 :: A2 by rw [HRw.out, ← hA1, ← hA2]; rfl)
      simp only [hA1]
      have HA2 := hid hA2
      clear hA1 hA2
      refine anyK_take2 (i := 4) (v := .string (str A1 ++ ⟨#[61]⟩)) rfl (by kernel_rfl) (by kernel_rfl) (by kernel_rfl) (by rfl) (fun _ _ _ h => h) (by rfl) hHeld ?hy4_19 (some 36) (by rfl) ?rest4_19
      case hy4_19 => (intro W hSw; exact cat_exec18 (by rfl) ⟨by rfl, by rfl⟩ ⟨by rw [str_size18]; have := HI1.out; omega, by decide⟩)
      (try simp only [Act.put]); (try simp only [List.setIfInBounds_toArray]); (try simp only [List.set_cons_succ]); (try simp only [List.set_cons_zero])
      refine anyK_step (i := 7) (by kernel_rfl) rfl (fun KP hK => ?_)
      go_simp
      refine (impl_anyItemWord K2 N2 F2 d2 (HQ2.out.below HF5.out (Nat.le_refl _)) z2 y2 f2 (HP0.out.below (HFk5.out _ HF5.out) (Nat.le_refl _))).mono ?_
      rintro e u2 ⟨rfl, b⟩
      replace HF5 := hid (HF5.out.trans (b.mono HF5.out.size))
      clear b
      go_wp2_with fail
      clear hHeld
      refine hK.out _ _ (HS5.out _ (HRow5.out _ HF5.out)) (fun hHeld => ?_)
      clear hK KP
      (try simp only [Act.put]); (try simp only [List.setIfInBounds_toArray]); (try simp only [List.set_cons_succ]); (try simp only [List.set_cons_zero])
      simp only [HA2.out]
      have hcat : str A1 ++ ⟨#[61]⟩ ++ str A2 = str RW := by
        rw [HR2.out, show (⟨#[61]⟩ : ByteArray) = str [61] from rfl, str_app18, str_app18, List.append_assoc]
        rfl
      refine anyK_take2 (i := 8) (v := .string (str RW)) rfl (by kernel_rfl) (by kernel_rfl) (by kernel_rfl) (by rfl) (fun _ _ _ h => h) (by rfl) hHeld ?hy8_20 (some 40) (by rfl) ?rest8_20
      case hy8_20 => (intro W hSw; rw [← hcat]; exact cat_exec18 (by rfl) ⟨by rfl, by rfl⟩ ⟨by rw [show (⟨#[61]⟩ : ByteArray) = str [61] from rfl, str_app18, str_size18]; have := HI1.out; simp; omega, by rw [str_size18]; have := HI2.out; omega⟩)
      (try simp only [Act.put]); (try simp only [List.setIfInBounds_toArray]); (try simp only [List.set_cons_succ]); (try simp only [List.set_cons_zero])
      refine anyK_step (i := 9) (by kernel_rfl) rfl (fun KP hK => ?_)
      go_simp
      have HN := hid (heap_alloc_new u2 (.cells #[.string (str RW)] 9))
      have HFa := hid (HF5.out.trans ((Below.alloc1 u2 (.cells #[.string (str RW)] 9)).mono HF5.out.size))
      have HOa := hid ((owns_below HF5.out (Nat.le_refl _) HOb.out).alloc (.cells #[.string (str RW)] 9))
      clear hHeld
      refine hK.out _ _ (HS5.out _ (HRow5.out _ HFa.out)) (fun hHeld => ?_)
      clear hK KP
      (try simp only [Act.put]); (try simp only [List.setIfInBounds_toArray]); (try simp only [List.set_cons_succ]); (try simp only [List.set_cons_zero])
      have hsa := (HFk5.out _ HFa.out).size
      refine anyK_step (i := 10) (by kernel_rfl) rfl (fun KP hK => ?_)
      refine step_appendS18 rfl _ _ rfl U0.heap.size _ (6 + k) _ rfl HOa.out ⟨u2.heap.size, 0, none⟩ (str RW) 1 rfl (World.news_of_block HN.out) (by omega) hsa ?_
      intro a8 c8 w8 o8 g8 _
      have HF8 := hid ((HFk5.out _ HFa.out).grown g8 hsa (fun j hj => (HOa.out.lt j hj).1))
      have HO8 := hid (show w8.ownsRow U0.heap.size 9 1 (.slice a8 (6 + k + 1) c8) (6 + (k + 1)) (strV (HW ++ rowsW es (k + 1))) by
        rw [HSc.out, ← List.append_assoc, strV_app]
        exact o8)
      have hrow8 : w8.heap[g5]? = some (.cells #[.int .i64 K1, .int .i64 N1, .float .f64 F1, .slice a1 m1 d1, .int .i64 K2, .int .i64 N2, .float .f64 F2, .slice a2 m2 d2] 69) := by
        rw [g8.block g5 (Array.getElem?_eq_some_iff.1 (HRow5.out _ HFa.out)).1 (own_apart18 HOa.out (HRow5.out _ HFa.out) (by decide))]
        exact HRow5.out _ HFa.out
      clear o8 g8 HOa
      clear hHeld
      refine hK.out _ _ (HS5.out _ hrow8) (fun hHeld => ?_)
      clear hK KP hrow8
      (try simp only [Act.put]); (try simp only [List.setIfInBounds_toArray]); (try simp only [List.set_cons_succ]); (try simp only [List.set_cons_zero])
      refine anyK_take2 (i := 11) (v := ?v11_21) rfl (by kernel_rfl) (by kernel_rfl) (by kernel_rfl) (by rfl) (fun _ _ _ h => h) (by rfl) hHeld ?hy11_21 (some 3) (by rfl) ?rest11_21
      case hy11_21 => (intro W hSw; obtain ⟨x0, x1, x2, x3, x4, x5, x6, x7⟩ := hSw; go_simp; (try with_reducible rfl))
      (try simp only [Act.put]); (try simp only [List.setIfInBounds_toArray]); (try simp only [List.set_cons_succ]); (try simp only [List.set_cons_zero])
      refine anyK_done (by kernel_rfl) ?_ _
      clear hHeld
      go_wp2_with fail
      go_roundw
      case rel => exact ⟨k + 1, by omega, by go_num, HO8, HF8⟩
      case measure => simp [intOf]; omega
    · have hlt' : ¬ (k : Int) < (m : Int) := by omega
      obtain rfl : k = m := by omega
      have ho := HOk.out
      have hsz := HFk.out.size
      obtain ⟨ao, co', rfl⟩ := own_sl18 ho
      have hne : ao ≠ none := by
        rcases ho.2 with ⟨_, h0⟩ | ⟨g', c', cur, e, _⟩
        · omega
        · cases e; simp
      obtain ⟨g', hg', hgl, hcap, hcl⟩ : ∃ g', ao = some ⟨g', 0, none⟩ ∧ g' < wr.heap.size ∧ 6 + k ≤ co' ∧ ∀ (j : Nat) x, ((HW ++ rowsW es k).map str)[j]? = some x → wr.cell? ⟨g', 0 + j, none⟩ = some (.string x) := by
        have hl2 := ho.1
        rcases ho.2 with ⟨_, h0⟩ | ⟨g', c', cur, e, _, hh, hnc, _, hcs, htk⟩
        · omega
        · cases e
          refine ⟨g', rfl, (Array.getElem?_eq_some_iff.1 hh).1, hnc, fun j x hx => ?_⟩
          rw [Nat.zero_add, cell_of_row _ _ _ _ _ _ hh]
          have hx2 : (strV (HW ++ rowsW es k))[j]? = some (.string x) := by
            unfold strV
            rw [List.getElem?_map] at hx ⊢
            cases hq : (HW ++ rowsW es k)[j]? with
            | none => rw [hq] at hx; simp at hx
            | some u => rw [hq] at hx; simp only [Option.map_some, Option.some.injEq] at hx ⊢; rw [hx]
          rw [← htk, List.getElem?_take] at hx2
          split at hx2
          · rw [← Array.getElem?_toList]; exact hx2
          · cases hx2
      subst hg'
      have HLn := hid (show ((HW ++ rowsW es k).map str).length = 6 + k by rw [List.length_map, List.length_append, HHd.out]; simp [rowsW])
      have HTx := hid (show txtR se kd co nn K N f zs tot es k = joinW (HW ++ rowsW es k) by unfold txtR; rw [HHW.out])
      have HTl := hid (txtR_len se kd co nn K N f zs tot es k)
      have HJn := hid (show Lib.join (((HW ++ rowsW es k).map str).map (·.data.toList)) [32] = us (txtR se kd co nn K N f zs tot es k) by
        rw [HTx.out, ← HHW.out, List.map_map]
        exact join_cells18 _ _)
      have HTb := hid (show byteL (txtR se kd co nn K N f zs tot es k) from txtR_byte hse hkd hnn hN HBy.out htot (fun j => HNs.out j) HZb.out)
      go_wp2_with fail
      have hcall := sh_strings_Join g' 0 co' ((HW ++ rowsW es k).map str) ⟨#[32]⟩ wr hcl hgl (by rw [HLn.out]; omega) (by rw [HLn.out]; exact hcap) (by
        show (Lib.join (((HW ++ rowsW es k).map str).map (·.data.toList)) [32]).length ≤ _
        rw [HJn.out, us, List.length_map]
        have := HTl.out; omega)
      rw [HLn.out] at hcall
      refine hcall.mono ?_
      rintro e w9 ⟨rfl, b⟩
      rw [show Lib.join (((HW ++ rowsW es k).map str).map (·.data.toList)) (⟨#[32]⟩ : ByteArray).data.toList = us (txtR se kd co nn K N f zs tot es k) from HJn.out, show (⟨(us (txtR se kd co nn K N f zs tot es k)).toArray⟩ : ByteArray) = str (txtR se kd co nn K N f zs tot es k) from rfl]
      obtain ⟨TX, hTX⟩ : ∃ TX, txtR se kd co nn K N f zs tot es k = TX := ⟨_, rfl⟩
      rw [hTX] at HTb ⊢
      have HTX := hid hTX
      clear hTX
      have HB9 := hid (HB0.out.trans ((HFk.out.trans (b.mono hsz)).mono HB0.out.size))
      have hcv := Lib.run_convert_string_bytes (P := Tryd.prog) w9 9 23 5 (str TX) (u := .string) Tryd.underlying9 Tryd.underlying23 Tryd.underlying5
      have HO := hid (bytes_own18 HTb.out w9)
      have HBl := hid (HB9.out.trans ((bytes_below18 w9 (str TX) 5).mono HB9.out.size))
      have hsz9 := HB9.out.size
      have HSz := hid (str_size18 TX)
      clear b hcall
      go_wp2_with fail
      go_ret
      refine ⟨.slice (some ⟨w9.heap.size, 0, none⟩) (str TX).size (grownCap w9 (str TX).size 0 5), rfl, ?_, HBl.out⟩
      have hfin := fun c => (HO.out c).mono hsz9
      rw [HTX.out]
      rw [HSz.out]
      exact hfin _
end Go.Proofs.YtoppccfgcccijaaDoor
