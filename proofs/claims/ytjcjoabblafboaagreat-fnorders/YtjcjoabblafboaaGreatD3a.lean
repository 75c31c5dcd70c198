/- The contract of the draw of an item that may be spoilt. For codes of at most 2^21 bytes. -/
import Derived.Test.YtjcjoabblafboaaGreatMgp
import Derived.Test.YtjcjoabblafboaaGreatMga
import Derived.Deep.AppendLies
import Derived.Laws.OwnMore
namespace Go.Proofs.YtjcjoabblafboaaGreat
open Go.RowKit
theorem own_form2 {w : World} {B : Nat} {v : Value} {m : Nat} {xs : List Value} (o : w.ownsRow B 5 1 v m xs) : ∃ a c, v = .slice a m c := by
 rcases o.2 with ⟨h1, h2⟩ | ⟨g', cap', cur, h1, _⟩
 · exact ⟨none, 0, by rw [h1, h2]⟩
 · exact ⟨_, _, h1⟩
theorem bdapp {A B : List Int} (ha : ∀ i, 0 ≤ A.getD i 0 ∧ A.getD i 0 ≤ 255) (hb : ∀ i, 0 ≤ B.getD i 0 ∧ B.getD i 0 ≤ 255) : ∀ i, 0 ≤ (A ++ B).getD i 0 ∧ (A ++ B).getD i 0 ≤ 255 := by
 intro i
 by_cases h : i < A.length
 · have := ha i
   rwa [List.getD_eq_getElem?_getD, List.getElem?_append_left h, ← List.getD_eq_getElem?_getD]
 · have := hb (i - A.length)
   rwa [List.getD_eq_getElem?_getD, List.getElem?_append_right (by omega), ← List.getD_eq_getElem?_getD]
theorem step_append_none {P : Program} {w : World} {ops : Array Oper} {o : Oper} {a : Act} {K : Act → World → Prop} {Q : Exit → Act → World → Prop} {E : Prop} (hgd : o.guard = none) (s x : Operand) (t : TypeId)
 (ho : o.op = .call { callee := .builtin .append, args := #[s, x], argTypes := #[t, t] })
 (base : Nat) (e : TypeId) (i : TypeInfo) (size : Nat) (ht : P.underlying t = some (.slice e)) (hi : P.info? e = some i)
 (v : Value) (n : Nat) (xs : List Value) (hs : a.eval s = v) (hown : w.ownsRow base e size v n xs) (hx : a.eval x = .slice none 0 0)
 (h : K (a.put o.dst v) w) : if Region.wanted o (yielded ops a.tmps) = true then Oper.wp P o a w K Q else E := by
 rw [if_pos (by simp [Region.wanted, hgd])]
 have hrun := run_append_owned_none (P := P) (w := w) base t o.type e i size ht hi v n xs hown
 unfold Oper.wp
 simp [execOp, ho, resolve, invoke, builtin, hs, hx, hrun, Result.andThen]
 exact h
set_option maxRecDepth 100000 in
set_option maxHeartbeats 12800000 in
theorem l3any {w : World} {g : Nat} {ad : Option Addr} {n cap : Nat} {zs : List Int} (c : Cur w g ad n cap zs) (hn : n ≤ 2097152) :
 Calls Tryz.prog 83 #[.pointer (some ⟨g, 0, none⟩)] w fun e w' => AnsI 3000 w g ad n cap zs e w' := by
 have hgl := c.lt
 go_enter Tryz.func83, Tryz.ntmps83
 go_wp2_with fail
 have c0 := c.alloc (.cells #[.int .i64 0, .int .i64 0, .float .f64 0, .slice none 0 0] 72)
 have G0 := hid (show w.grownBy (w.alloc (.cells #[.int .i64 0, .int .i64 0, .float .f64 0, .slice none 0 0] 72)) none from World.grownBy_alloc w _ none)
 have T0 := hid (heap_alloc_new w (.cells #[.int .i64 0, .int .i64 0, .float .f64 0, .slice none 0 0] 72))
 have Z0 := hid (show (w.alloc (.cells #[.int .i64 0, .int .i64 0, .float .f64 0, .slice none 0 0] 72)).heap.size = w.heap.size + 1 by simp)
 generalize w.alloc (.cells #[.int .i64 0, .int .i64 0, .float .f64 0, .slice none 0 0] 72) = U at *
 generalize hq0 : w.heap.size = q0 at *
 have HQ := hid hq0
 have hgu : g < U.heap.size := by have := Z0.out; omega
 clear c hq0
 refine (l3value c0 hn).mono ?_
 rintro e w1 ⟨K, N, f, v, D, rfl, o1, bd1, hD, hN, hf, c1, g1⟩
 obtain ⟨av, cv, rfl⟩ := own_form2 o1
 have B0 := hid (Bi.start (K := 0) (N := 0) (f := 0) (v := .slice none 0 0) (D := []) hgu g1 c1 (World.ownsRow_nil _ _ _ _) (by simp))
 have TB0 := hid B0.out.box
 have B1 := hid (B0.out.row (K' := K) (N' := N) (f' := f) (o1.alloc (.cells #[.int .i64 0, .int .i64 0, .float .f64 0, .slice none 0 0] 72)) bd1)
 clear c0 c1 g1 o1 bd1 B0
 go_wp2_with (refine wpList_store_row rfl 72 (.tmp 3) _ rfl w1.heap.size #[.int .i64 K, .int .i64 N, .float .f64 f, .slice av D.length cv] rfl rfl 72 _ TB0.out ?y1 ?y2 ?y3 ?_)
 case y1 => simpa using sizeIt
 try case y2 => rfl
 case y3 => simp [Value.oneCell']
 generalize (w1.alloc (.cells #[.int .i64 0, .int .i64 0, .float .f64 0, .slice none 0 0] 72)).setRow w1.heap.size #[.int .i64 K, .int .i64 N, .float .f64 f, .slice av D.length cv] = V at *
 clear TB0
 generalize w1.heap.size = p at *
 refine (l1Once B1.out.cur hn 2 (by omega) (by omega)).mono ?_
 rintro e w2 ⟨q, rfl, c2, g2⟩
 have B2 := hid (B1.out.cursor c2 g2)
 clear c2 g2 B1
 cases q
 · go_wp2_with fail
   refine (l1Below B2.out.cur hn 14 (by omega) (by omega)).mono ?_
   rintro e w5 ⟨t, rfl, ht0, ht1, c5, g5⟩
   have B5 := hid (B2.out.cursor c5 g5)
   clear c5 g5 B2
   by_cases t0 : t = 0
   · subst t0
     go_wp2_with fail
     refine (l1Below B5.out.cur hn 7 (by omega) (by omega)).mono ?_
     rintro e w6 ⟨y, rfl, hy0, hy1, c6, g6⟩
     have B6 := hid (B5.out.cursor c6 g6)
     clear c6 g6 B5
     obtain ⟨z0, z1, z2, z3⟩ : Box w6 p K N f av D.length cv := B6.out.cells
     have zf := B6.out.froz 0
     have B7 := hid (B6.out.setK (y - 1))
     clear B6
     have FA := finI (M := 3000) G0.out HQ.out Z0.out T0.out hgl B7.out.gr B7.out.cur B7.out.own B7.out.bd (by omega) hN hf (K := (y - 1)) (N := N) (f := f)
     have TQ := hid FA.1
     have AN := hid FA.2
     have TP := hid B7.out.box
     clear FA
     go_wp2_with (first
      | (refine wpList_load_row rfl 72 _ rfl p rfl 72 _ (0, 0) _ TP.out Tryz.underlying72 rfl sizeIt ?_)
      | (refine wpList_store_row rfl 72 (.tmp 2) _ rfl q0 #[.int .i64 (y - 1), .int .i64 N, .float .f64 f, (.slice av D.length cv)] rfl rfl 72 _ TQ.out ?s1x1 ?s2x1 ?s3x1 ?_))
     case s1x1 => simpa using sizeIt
     try case s2x1 => rfl
     case s3x1 => simp [Value.oneCell']
     refine bodyPost_ret (results_cell_row Tryz.results83 _ _ q0 72 #[.int .i64 (y - 1), .int .i64 N, .float .f64 f, (.slice av D.length cv)] (0, 0) _ rfl (setRow_heap _ _ _ _ _ _ TQ.out) Tryz.underlying72 rfl sizeIt) rfl ?_
     exact AN.out
   by_cases t1 : t = 1
   · subst t1
     obtain ⟨z0, z1, z2, z3⟩ : Box w5 p K N f av D.length cv := B5.out.cells
     have zf := B5.out.froz 1
     have B7 := hid (B5.out.setN (wrap64 (N + 1)))
     clear B5
     have hw : -9223372036854775808 ≤ wrap64 (N + 1) ∧ wrap64 (N + 1) ≤ 9223372036854775807 := by unfold wrap64; omega
     have HWR := hid hw
     clear hw
     have FA := finI (M := 3000) G0.out HQ.out Z0.out T0.out hgl B7.out.gr B7.out.cur B7.out.own B7.out.bd (by omega) HWR.out hf (K := K) (N := (wrap64 (N + 1))) (f := f)
     have TQ := hid FA.1
     have AN := hid FA.2
     have TP := hid B7.out.box
     clear FA
     go_wp2_with (first
      | (refine wpList_load_row rfl 72 _ rfl p rfl 72 _ (0, 0) _ TP.out Tryz.underlying72 rfl sizeIt ?_)
      | (refine wpList_store_row rfl 72 (.tmp 2) _ rfl q0 #[.int .i64 K, .int .i64 (wrap64 (N + 1)), .float .f64 f, (.slice av D.length cv)] rfl rfl 72 _ TQ.out ?s1x2 ?s2x2 ?s3x2 ?_))
     case s1x2 => simpa using sizeIt
     try case s2x2 => rfl
     case s3x2 => simp [Value.oneCell']
     refine bodyPost_ret (results_cell_row Tryz.results83 _ _ q0 72 #[.int .i64 K, .int .i64 (wrap64 (N + 1)), .float .f64 f, (.slice av D.length cv)] (0, 0) _ rfl (setRow_heap _ _ _ _ _ _ TQ.out) Tryz.underlying72 rfl sizeIt) rfl ?_
     exact AN.out
   by_cases t2 : t = 2
   · subst t2
     go_wp2_with fail
     refine (l2float B5.out.cur hn).mono ?_
     rintro e w6 ⟨z, rfl, hz, c6, g6⟩
     have B6 := hid (B5.out.cursor c6 g6)
     clear c6 g6 B5
     obtain ⟨z0, z1, z2, z3⟩ : Box w6 p K N f av D.length cv := B6.out.cells
     have zf := B6.out.froz 2
     have B7 := hid (B6.out.setF z)
     clear B6
     have hst := fun w a m => run_store Tryz.prog w a (.float .f64 z) m rfl
     have FA := finI (M := 3000) G0.out HQ.out Z0.out T0.out hgl B7.out.gr B7.out.cur B7.out.own B7.out.bd (by omega) hN hz (K := K) (N := N) (f := z)
     have TQ := hid FA.1
     have AN := hid FA.2
     have TP := hid B7.out.box
     clear FA
     go_wp2_with (first
      | (refine wpList_load_row rfl 72 _ rfl p rfl 72 _ (0, 0) _ TP.out Tryz.underlying72 rfl sizeIt ?_)
      | (refine wpList_store_row rfl 72 (.tmp 2) _ rfl q0 #[.int .i64 K, .int .i64 N, .float .f64 z, (.slice av D.length cv)] rfl rfl 72 _ TQ.out ?s1x3 ?s2x3 ?s3x3 ?_))
     case s1x3 => simpa using sizeIt
     try case s2x3 => rfl
     case s3x3 => simp [Value.oneCell']
     refine bodyPost_ret (results_cell_row Tryz.results83 _ _ q0 72 #[.int .i64 K, .int .i64 N, .float .f64 z, (.slice av D.length cv)] (0, 0) _ rfl (setRow_heap _ _ _ _ _ _ TQ.out) Tryz.underlying72 rfl sizeIt) rfl ?_
     exact AN.out
   by_cases t3 : t = 3
   · subst t3
     have H4 := hid B5.out.drew.c3
     go_wp2_with fail
     obtain ⟨i0, hi, hz0, hz1, hz2⟩ := info_parts Tryz.info5
     refine region_K 6 (fun X => X.cell? ⟨p, 3, none⟩ = some (.slice av D.length cv)) (by kernel_rfl) ?_ (fun hHeld => ?_)
     · exact H4.out
     refine anyK_take (i := 0) (v := ?v30001) rfl (by kernel_rfl) (by kernel_rfl) (by kernel_rfl) (by kernel_rfl) (fun _ _ _ h => h) (by rfl) hHeld ?hy30001 (some 32) (by rfl) ?rest30001
     case hy30001 => (intro W hSw; (try dsimp only at hSw); go_simp; (try with_reducible rfl))
     try simp only [Act.put]
     try simp only [List.setIfInBounds_toArray]
     try simp only [List.set_cons_succ, List.set_cons_zero]
     refine anyK_take (i := 1) (v := ?v30002) rfl (by kernel_rfl) (by kernel_rfl) (by kernel_rfl) (by kernel_rfl) (fun _ _ _ h => h) (by rfl) hHeld ?hy30002 (some 33) (by rfl) ?rest30002
     case hy30002 => (intro W hSw; (try dsimp only at hSw); go_simp; (try with_reducible rfl))
     try simp only [Act.put]
     try simp only [List.setIfInBounds_toArray]
     try simp only [List.set_cons_succ, List.set_cons_zero]
     refine anyK_take (i := 2) (v := ?v30003) rfl (by kernel_rfl) (by kernel_rfl) (by kernel_rfl) (by kernel_rfl) (fun _ _ _ h => h) (by rfl) hHeld ?hy30003 (some 34) (by rfl) ?rest30003
     case hy30003 => (intro W hSw; (try dsimp only at hSw); go_simp; (try with_reducible rfl))
     try simp only [Act.put]
     try simp only [List.setIfInBounds_toArray]
     try simp only [List.set_cons_succ, List.set_cons_zero]
     refine anyK_step (i := 3) (by kernel_rfl) rfl (fun K hK => ?_)
     go_simp
     refine (l1some2 B5.out.drew.cur hn 3 (by omega) (by omega)).mono ?_
     rintro e w6 ⟨sv, SL, rfl, o8, bd8, hSL, hnl, cc, gg⟩
     have B6 := hid (B5.out.drew.cursor cc gg)
     have S8 := hid o8
     have HNL := hid hnl
     have BD8 := hid bd8
     clear cc gg o8 hnl bd8 B5
     go_wp2_with fail
     refine hK.out _ _ ?_ (fun hH2 => ?_)
     · exact B6.out.c3
     clear hK K hHeld
     have hHeld := hH2
     clear hH2
     try simp only [Act.put]
     try simp only [List.setIfInBounds_toArray]
     try simp only [List.set_cons_succ, List.set_cons_zero]
     by_cases hs0 : SL.length = 0
     · obtain rfl := HNL.out hs0
       refine anyK_step (i := 4) (by kernel_rfl) rfl (fun K hK => ?_)
       refine step_append_none (by rfl) _ _ _ (by rfl) U.heap.size 5 i0 1 Tryz.underlying22 hi (.slice av D.length cv) D.length (bys D) (by rfl) B6.out.own (by rfl) ?_
       have z5 := B6.out.c3
       have zf := B6.out.froz 3
       have B7 := hid (B6.out.setV B6.out.own B6.out.bd)
       refine hK.out _ _ ?_ (fun hH2 => ?_)
       · exact z5
       clear hK K hHeld
       have hHeld := hH2
       clear hH2
       try simp only [Act.put]
       try simp only [List.setIfInBounds_toArray]
       try simp only [List.set_cons_succ, List.set_cons_zero]
       refine anyK_step (i := 5) (by kernel_rfl) rfl (fun K hK => ?_)
       go_simp
       refine hK.out _ _ ?_ (fun hH2 => ?_)
       · exact z5
       clear hK K hHeld
       have hHeld := hH2
       clear hH2
       try simp only [Act.put]
       try simp only [List.setIfInBounds_toArray]
       try simp only [List.set_cons_succ, List.set_cons_zero]
       refine anyK_last (by kernel_rfl) rfl (fun K hK => ?_)
       go_simp
       refine hK.out _ _ ?_
       clear hK K hHeld
       refine anyK_done (by kernel_rfl) ?_ _
       clear z5 zf
       clear hi hz0 hz1 hz2 B6
       have FA := finI (M := 3000) G0.out HQ.out Z0.out T0.out hgl B7.out.gr B7.out.cur B7.out.own B7.out.bd (by omega) hN hf (K := K) (N := N) (f := f)
       have TQ := hid FA.1
       have AN := hid FA.2
       have TP := hid B7.out.box
       clear FA
       go_wp2_with (first
        | (refine wpList_load_row rfl 72 _ rfl p rfl 72 _ (0, 0) _ TP.out Tryz.underlying72 rfl sizeIt ?_)
        | (refine wpList_store_row rfl 72 (.tmp 2) _ rfl q0 #[.int .i64 K, .int .i64 N, .float .f64 f, (.slice av D.length cv)] rfl rfl 72 _ TQ.out ?s1x4 ?s2x4 ?s3x4 ?_))
       case s1x4 => simpa using sizeIt
       try case s2x4 => rfl
       case s3x4 => simp [Value.oneCell']
       refine bodyPost_ret (results_cell_row Tryz.results83 _ _ q0 72 #[.int .i64 K, .int .i64 N, .float .f64 f, (.slice av D.length cv)] (0, 0) _ rfl (setRow_heap _ _ _ _ _ _ TQ.out) Tryz.underlying72 rfl sizeIt) rfl ?_
       exact AN.out
     · obtain ⟨sb, so, sc, rfl⟩ : ∃ b o c, sv = .slice (some ⟨b, o, none⟩) SL.length c := by
        obtain ⟨x1, x2, e, r1, -⟩ := Reads.own S8.out BD8.out
        obtain ⟨b, o, rfl⟩ := r1.pos (by omega)
        exact ⟨b, o, x2, e⟩
       have RS8 := hid (show Reads w6 (some ⟨sb, so, none⟩) SL.length SL by obtain ⟨x1, x2, e, r1, -⟩ := Reads.own S8.out BD8.out; obtain ⟨rfl, -, -⟩ := Value.slice.inj e; exact r1)
       have hUz := B6.out.gr.size
       refine anyK_step (i := 4) (by kernel_rfl) rfl (fun K hK => ?_)
       refine step_append_lies _ (by rfl) _ _ _ (by rfl) U.heap.size 5 i0 (.int .u8 0) 1 1 Tryz.underlying22 hi hz0 hz1 hz2 rfl (by omega) (.slice av D.length cv) D.length (bys D) (by rfl) B6.out.own ⟨sb, so, none⟩ SL.length sc (bys SL) (by rfl) (by rw [bys_length]; omega) RS8.out.news (bys_one _) (by omega) (by unfold maxLen; omega) (by omega) hUz _ rfl ?_
       intro vg vc w9 o9 g9 hat _
       have T9 := (B6.out.grow g9).1
       have z5 : w9.cell? ⟨p, 3, none⟩ = some (.slice av D.length cv) := by rw [cell_of_row _ _ _ _ _ _ T9]; rfl
       have zf : w9.frozen? ⟨p, 3, none⟩ = false := frozen_of_row _ _ _ _ _ T9
       have B7 := hid (B6.out.app (D' := D ++ SL) g9 (by rw [List.length_append, bys_append]; exact o9) (bdapp B6.out.bd BD8.out))
       clear o9 g9 hat T9
       refine hK.out _ _ ?_ (fun hH2 => ?_)
       · exact z5
       clear hK K hHeld
       have hHeld := hH2
       clear hH2
       try simp only [Act.put]
       try simp only [List.setIfInBounds_toArray]
       try simp only [List.set_cons_succ, List.set_cons_zero]
       refine anyK_step (i := 5) (by kernel_rfl) rfl (fun K hK => ?_)
       go_simp
       refine hK.out _ _ ?_ (fun hH2 => ?_)
       · exact z5
       clear hK K hHeld
       have hHeld := hH2
       clear hH2
       try simp only [Act.put]
       try simp only [List.setIfInBounds_toArray]
       try simp only [List.set_cons_succ, List.set_cons_zero]
       refine anyK_last (by kernel_rfl) rfl (fun K hK => ?_)
       go_simp
       refine hK.out _ _ ?_
       clear hK K hHeld
       refine anyK_done (by kernel_rfl) ?_ _
       clear z5 zf
       clear hi hz0 hz1 hz2 B6
       have FA := finI (M := 3000) G0.out HQ.out Z0.out T0.out hgl B7.out.gr B7.out.cur B7.out.own B7.out.bd (by rw [List.length_append]; omega) hN hf (K := K) (N := N) (f := f)
       have TQ := hid FA.1
       have AN := hid FA.2
       have TP := hid B7.out.box
       clear FA
       go_wp2_with (first
        | (refine wpList_load_row rfl 72 _ rfl p rfl 72 _ (0, 0) _ TP.out Tryz.underlying72 rfl sizeIt ?_)
        | (refine wpList_store_row rfl 72 (.tmp 2) _ rfl q0 #[.int .i64 K, .int .i64 N, .float .f64 f, (.slice (some ⟨vg, 0, none⟩) (D.length + SL.length) vc)] rfl rfl 72 _ TQ.out ?s1x5 ?s2x5 ?s3x5 ?_))
       case s1x5 => simpa using sizeIt
       try case s2x5 => rfl
       case s3x5 => simp [Value.oneCell']
       refine bodyPost_ret (results_cell_row Tryz.results83 _ _ q0 72 #[.int .i64 K, .int .i64 N, .float .f64 f, (.slice (some ⟨vg, 0, none⟩) (D.length + SL.length) vc)] (0, 0) _ rfl (setRow_heap _ _ _ _ _ _ TQ.out) Tryz.underlying72 rfl sizeIt) rfl ?_
       exact AN.out
   by_cases t4 : t = 4
   · subst t4
     obtain ⟨i0, hi, hz0, hz1, hz2⟩ := info_parts Tryz.info5
     go_wp2_with fail
     go_loopw [] (fun wr => ∃ (D2 : List Int) (a2 : Option Addr) (c2 : Nat), D2.length ≤ 1100 ∧ Hid (Bi U g p ad n cap zs wr K N f (.slice a2 D2.length c2) D2)) (fun wr => 2000 - lenOf ((wr.cell? ⟨p, 3, none⟩).getD undef))
     case atStart => exact ⟨D, av, cv, by omega, B5⟩
     case round =>
      obtain ⟨D2, a2, c2, hD2, hB⟩ := hrel
      clear B5
      have Y1 := hid hB.out.c3
      have y1d := hB.out.drew.c3
      go_wp2_with fail
      go_region_held3 (fun X => X.cell? ⟨p, 3, none⟩ = some (.slice a2 D2.length c2)) (first | exact z1 | exact y1d)
       (first
       | (go_at_call_of 79 (Value.int IntKind.i64 2); refine (l1Below hB.out.drew.cur hn 2 (by omega) (by omega)).mono ?_; rintro e w6 ⟨y, rfl, hy0, hy1, cc, gg⟩; have B6 := hid (hB.out.drew.cursor cc gg); have z1 := B6.out.c3))
      clear cc gg z1 y1d
      rw [show IntKind.i64.wrap (40 + y) = 40 + y by rw [IntKind.wrap_i64]; omega]
      by_cases hco : (D2.length : Int) < 40 + y
      · have B7 := hid (B6.out.alloc (.cells #[.int .u8 120] 5))
        have hUz := B7.out.gr.size
        have y5 := B6.out.c3
        have x5 := B7.out.c3
        clear hB
        go_wp2_with (at_builtin; refine wpList_append_lies _ rfl _ _ 22 rfl U.heap.size 5 i0 (.int .u8 0) 1 1 Tryz.underlying22 hi hz0 hz1 hz2 rfl (by omega) (.slice a2 D2.length c2) D2.length (bys D2) rfl B7.out.own ⟨w6.heap.size, 0, none⟩ 1 1 [.int .u8 120] rfl rfl (World.news_of_block (heap_alloc_new w6 _)) (by simp [Value.oneCell']) (by omega) (by unfold maxLen; omega) (by omega) hUz _ rfl ?_)
        intro vg vc w9 o9 g9 hat _
        have T9 := (B7.out.grow g9).1
        have z5 : w9.cell? ⟨p, 3, none⟩ = some (.slice a2 D2.length c2) := by rw [cell_of_row _ _ _ _ _ _ T9]; rfl
        have zf : w9.frozen? ⟨p, 3, none⟩ = false := frozen_of_row _ _ _ _ _ T9
        have B8 := hid (B7.out.app (D' := D2 ++ [120]) g9 (by rw [List.length_append, bys_append]; exact o9) (bdapp B7.out.bd (fun i => by rcases i with _ | i <;> simp)))
        clear o9 g9 hat T9 y5 x5 B7 B6
        go_wp2_with fail
        go_roundw
        case rel => exact ⟨D2 ++ [120], some ⟨vg, 0, none⟩, vc, by simp; omega, by rw [List.length_append]; exact B8⟩
        case measure => rw [B8.out.c3, Y1.out]; simp [lenOf]; omega
      · clear hB Y1 hi hz0 hz1 hz2
        have hst0 := fun w a m => run_store Tryz.prog w a (.float .f64 0) m rfl
        obtain ⟨z0, z1, z2, z3⟩ : Box w6 p K N f a2 D2.length c2 := B6.out.cells
        have zf0 := B6.out.froz 0
        have Bk := hid (B6.out.setK 3)
        obtain ⟨k0, k1, k2, k3⟩ : Box (w6.setCell ⟨p, 0, none⟩ (.int .i64 3)) p 3 N f a2 D2.length c2 := Bk.out.cells
        have kf1 := Bk.out.froz 1
        have Bn := hid (Bk.out.setN 0)
        obtain ⟨n0, n1, n2, n3⟩ : Box ((w6.setCell ⟨p, 0, none⟩ (.int .i64 3)).setCell ⟨p, 1, none⟩ (.int .i64 0)) p 3 0 f a2 D2.length c2 := Bn.out.cells
        have nf2 := Bn.out.froz 2
        have Bf := hid (Bn.out.setF 0)
        clear B6 Bk Bn
        have FA := finI (M := 3000) G0.out HQ.out Z0.out T0.out hgl Bf.out.gr Bf.out.cur Bf.out.own Bf.out.bd (by omega) (by omega) (by omega) (K := 3) (N := 0) (f := 0)
        have TQ := hid FA.1
        have AN := hid FA.2
        have TP := hid Bf.out.box
        clear FA
        go_wp2_with (first
         | (refine wpList_load_row rfl 72 _ rfl p rfl 72 _ (0, 0) _ TP.out Tryz.underlying72 rfl sizeIt ?_)
         | (refine wpList_store_row rfl 72 (.tmp 2) _ rfl q0 #[.int .i64 3, .int .i64 0, .float .f64 0, (.slice a2 D2.length c2)] rfl rfl 72 _ TQ.out ?s1x6 ?s2x6 ?s3x6 ?_))
        case s1x6 => simpa using sizeIt
        try case s2x6 => rfl
        case s3x6 => simp [Value.oneCell']
        refine bodyPost_ret (results_cell_row Tryz.results83 _ _ q0 72 #[.int .i64 3, .int .i64 0, .float .f64 0, (.slice a2 D2.length c2)] (0, 0) _ rfl (setRow_heap _ _ _ _ _ _ TQ.out) Tryz.underlying72 rfl sizeIt) rfl ?_
        exact AN.out
   by_cases t5 : t = 5
   · subst t5
     have B7 := hid (B5.out.row (K' := 2) (N' := 0) (f' := 9223372036854775808) (v' := .slice none 0 0) (D' := []) (World.ownsRow_nil _ _ _ _) (by simp))
     have TB := hid B5.out.box
     clear B5
     have hng := fun w => neg_run 0 9223372036854775808 (by decide) w
     have FA := finI (M := 3000) G0.out HQ.out Z0.out T0.out hgl B7.out.gr B7.out.cur B7.out.own B7.out.bd (by simp) (by omega) (by omega) (K := 2) (N := 0) (f := 9223372036854775808)
     have TQ := hid FA.1
     have AN := hid FA.2
     have TP := hid B7.out.box
     clear FA
     go_wp2_with (first
      | (refine wpList_store_row rfl 72 (.tmp 3) _ rfl p #[.int .i64 2, .int .i64 0, .float .f64 9223372036854775808, .slice none 0 0] rfl rfl 72 _ TB.out ?r1z1 ?r2z1 ?r3z1 ?_)
      | (refine wpList_load_row rfl 72 _ rfl p rfl 72 _ (0, 0) _ TP.out Tryz.underlying72 rfl sizeIt ?_)
      | (refine wpList_store_row rfl 72 (.tmp 2) _ rfl q0 #[.int .i64 2, .int .i64 0, .float .f64 9223372036854775808, (.slice none 0 0)] rfl rfl 72 _ TQ.out ?s1x7 ?s2x7 ?s3x7 ?_))
     case r1z1 => simpa using sizeIt
     try case r2z1 => rfl
     case r3z1 => simp [Value.oneCell']
     case s1x7 => simpa using sizeIt
     try case s2x7 => rfl
     case s3x7 => simp [Value.oneCell']
     refine bodyPost_ret (results_cell_row Tryz.results83 _ _ q0 72 #[.int .i64 2, .int .i64 0, .float .f64 9223372036854775808, (.slice none 0 0)] (0, 0) _ rfl (setRow_heap _ _ _ _ _ _ TQ.out) Tryz.underlying72 rfl sizeIt) rfl ?_
     exact AN.out
   have FA := finI (M := 3000) G0.out HQ.out Z0.out T0.out hgl B5.out.gr B5.out.cur B5.out.own B5.out.bd (by omega) hN hf (K := K) (N := N) (f := f)
   have TQ := hid FA.1
   have AN := hid FA.2
   have TP := hid B5.out.box
   clear FA
   go_wp2_with (first
    | (refine wpList_load_row rfl 72 _ rfl p rfl 72 _ (0, 0) _ TP.out Tryz.underlying72 rfl sizeIt ?_)
    | (refine wpList_store_row rfl 72 (.tmp 2) _ rfl q0 #[.int .i64 K, .int .i64 N, .float .f64 f, (.slice av D.length cv)] rfl rfl 72 _ TQ.out ?s1x8 ?s2x8 ?s3x8 ?_))
   case s1x8 => simpa using sizeIt
   try case s2x8 => rfl
   case s3x8 => simp [Value.oneCell']
   refine bodyPost_ret (results_cell_row Tryz.results83 _ _ q0 72 #[.int .i64 K, .int .i64 N, .float .f64 f, (.slice av D.length cv)] (0, 0) _ rfl (setRow_heap _ _ _ _ _ _ TQ.out) Tryz.underlying72 rfl sizeIt) rfl ?_
   exact AN.out
 · go_wp2_with fail
   refine (l3key B2.out.cur hn).mono ?_
   rintro e w3 ⟨K3, N3, f3, v3, D3, rfl, o3, bd3, hD3, hN3, hf3, c3, g3⟩
   obtain ⟨a3, q3, rfl⟩ := own_form2 o3
   have B3 := hid (B2.out.cursor c3 g3)
   have TB3 := hid B3.out.box
   have B4 := hid (B3.out.row (K' := K3) (N' := N3) (f' := f3) (owns_lower o3 B2.out.gr.size) bd3)
   clear o3 bd3 c3 g3 B3 B2 hD hN hf
   go_wp2_with (refine wpList_store_row rfl 72 (.tmp 3) _ rfl p #[.int .i64 K3, .int .i64 N3, .float .f64 f3, .slice a3 D3.length q3] rfl rfl 72 _ TB3.out ?x1 ?x2 ?x3 ?_)
   case x1 => simpa using sizeIt
   try case x2 => rfl
   case x3 => simp [Value.oneCell']
   clear TB3
   generalize w3.setRow p #[.int .i64 K3, .int .i64 N3, .float .f64 f3, .slice a3 D3.length q3] = w4 at *
   refine (l1Below B4.out.cur hn 14 (by omega) (by omega)).mono ?_
   rintro e w5 ⟨t, rfl, ht0, ht1, c5, g5⟩
   have B5 := hid (B4.out.cursor c5 g5)
   clear c5 g5 B4
   by_cases t0 : t = 0
   · subst t0
     go_wp2_with fail
     refine (l1Below B5.out.cur hn 7 (by omega) (by omega)).mono ?_
     rintro e w6 ⟨y, rfl, hy0, hy1, c6, g6⟩
     have B6 := hid (B5.out.cursor c6 g6)
     clear c6 g6 B5
     obtain ⟨z0, z1, z2, z3⟩ : Box w6 p K3 N3 f3 a3 D3.length q3 := B6.out.cells
     have zf := B6.out.froz 0
     have B7 := hid (B6.out.setK (y - 1))
     clear B6
     have FA := finI (M := 3000) G0.out HQ.out Z0.out T0.out hgl B7.out.gr B7.out.cur B7.out.own B7.out.bd (by omega) hN3 hf3 (K := (y - 1)) (N := N3) (f := f3)
     have TQ := hid FA.1
     have AN := hid FA.2
     have TP := hid B7.out.box
     clear FA
     go_wp2_with (first
      | (refine wpList_load_row rfl 72 _ rfl p rfl 72 _ (0, 0) _ TP.out Tryz.underlying72 rfl sizeIt ?_)
      | (refine wpList_store_row rfl 72 (.tmp 2) _ rfl q0 #[.int .i64 (y - 1), .int .i64 N3, .float .f64 f3, (.slice a3 D3.length q3)] rfl rfl 72 _ TQ.out ?s1x9 ?s2x9 ?s3x9 ?_))
     case s1x9 => simpa using sizeIt
     try case s2x9 => rfl
     case s3x9 => simp [Value.oneCell']
     refine bodyPost_ret (results_cell_row Tryz.results83 _ _ q0 72 #[.int .i64 (y - 1), .int .i64 N3, .float .f64 f3, (.slice a3 D3.length q3)] (0, 0) _ rfl (setRow_heap _ _ _ _ _ _ TQ.out) Tryz.underlying72 rfl sizeIt) rfl ?_
     exact AN.out
   by_cases t1 : t = 1
   · subst t1
     obtain ⟨z0, z1, z2, z3⟩ : Box w5 p K3 N3 f3 a3 D3.length q3 := B5.out.cells
     have zf := B5.out.froz 1
     have B7 := hid (B5.out.setN (wrap64 (N3 + 1)))
     clear B5
     have hw : -9223372036854775808 ≤ wrap64 (N3 + 1) ∧ wrap64 (N3 + 1) ≤ 9223372036854775807 := by unfold wrap64; omega
     have HWR := hid hw
     clear hw
     have FA := finI (M := 3000) G0.out HQ.out Z0.out T0.out hgl B7.out.gr B7.out.cur B7.out.own B7.out.bd (by omega) HWR.out hf3 (K := K3) (N := (wrap64 (N3 + 1))) (f := f3)
     have TQ := hid FA.1
     have AN := hid FA.2
     have TP := hid B7.out.box
     clear FA
     go_wp2_with (first
      | (refine wpList_load_row rfl 72 _ rfl p rfl 72 _ (0, 0) _ TP.out Tryz.underlying72 rfl sizeIt ?_)
      | (refine wpList_store_row rfl 72 (.tmp 2) _ rfl q0 #[.int .i64 K3, .int .i64 (wrap64 (N3 + 1)), .float .f64 f3, (.slice a3 D3.length q3)] rfl rfl 72 _ TQ.out ?s1x10 ?s2x10 ?s3x10 ?_))
     case s1x10 => simpa using sizeIt
     try case s2x10 => rfl
     case s3x10 => simp [Value.oneCell']
     refine bodyPost_ret (results_cell_row Tryz.results83 _ _ q0 72 #[.int .i64 K3, .int .i64 (wrap64 (N3 + 1)), .float .f64 f3, (.slice a3 D3.length q3)] (0, 0) _ rfl (setRow_heap _ _ _ _ _ _ TQ.out) Tryz.underlying72 rfl sizeIt) rfl ?_
     exact AN.out
   by_cases t2 : t = 2
   · subst t2
     go_wp2_with fail
     refine (l2float B5.out.cur hn).mono ?_
     rintro e w6 ⟨z, rfl, hz, c6, g6⟩
     have B6 := hid (B5.out.cursor c6 g6)
     clear c6 g6 B5
     obtain ⟨z0, z1, z2, z3⟩ : Box w6 p K3 N3 f3 a3 D3.length q3 := B6.out.cells
     have zf := B6.out.froz 2
     have B7 := hid (B6.out.setF z)
     clear B6
     have hst := fun w a m => run_store Tryz.prog w a (.float .f64 z) m rfl
     have FA := finI (M := 3000) G0.out HQ.out Z0.out T0.out hgl B7.out.gr B7.out.cur B7.out.own B7.out.bd (by omega) hN3 hz (K := K3) (N := N3) (f := z)
     have TQ := hid FA.1
     have AN := hid FA.2
     have TP := hid B7.out.box
     clear FA
     go_wp2_with (first
      | (refine wpList_load_row rfl 72 _ rfl p rfl 72 _ (0, 0) _ TP.out Tryz.underlying72 rfl sizeIt ?_)
      | (refine wpList_store_row rfl 72 (.tmp 2) _ rfl q0 #[.int .i64 K3, .int .i64 N3, .float .f64 z, (.slice a3 D3.length q3)] rfl rfl 72 _ TQ.out ?s1x11 ?s2x11 ?s3x11 ?_))
     case s1x11 => simpa using sizeIt
     try case s2x11 => rfl
     case s3x11 => simp [Value.oneCell']
     refine bodyPost_ret (results_cell_row Tryz.results83 _ _ q0 72 #[.int .i64 K3, .int .i64 N3, .float .f64 z, (.slice a3 D3.length q3)] (0, 0) _ rfl (setRow_heap _ _ _ _ _ _ TQ.out) Tryz.underlying72 rfl sizeIt) rfl ?_
     exact AN.out
   by_cases t3 : t = 3
   · subst t3
     have H4 := hid B5.out.drew.c3
     go_wp2_with fail
     obtain ⟨i0, hi, hz0, hz1, hz2⟩ := info_parts Tryz.info5
     refine region_K 6 (fun X => X.cell? ⟨p, 3, none⟩ = some (.slice a3 D3.length q3)) (by kernel_rfl) ?_ (fun hHeld => ?_)
     · exact H4.out
     refine anyK_take (i := 0) (v := ?v30005) rfl (by kernel_rfl) (by kernel_rfl) (by kernel_rfl) (by kernel_rfl) (fun _ _ _ h => h) (by rfl) hHeld ?hy30005 (some 32) (by rfl) ?rest30005
     case hy30005 => (intro W hSw; (try dsimp only at hSw); go_simp; (try with_reducible rfl))
     try simp only [Act.put]
     try simp only [List.setIfInBounds_toArray]
     try simp only [List.set_cons_succ, List.set_cons_zero]
     refine anyK_take (i := 1) (v := ?v30006) rfl (by kernel_rfl) (by kernel_rfl) (by kernel_rfl) (by kernel_rfl) (fun _ _ _ h => h) (by rfl) hHeld ?hy30006 (some 33) (by rfl) ?rest30006
     case hy30006 => (intro W hSw; (try dsimp only at hSw); go_simp; (try with_reducible rfl))
     try simp only [Act.put]
     try simp only [List.setIfInBounds_toArray]
     try simp only [List.set_cons_succ, List.set_cons_zero]
     refine anyK_take (i := 2) (v := ?v30007) rfl (by kernel_rfl) (by kernel_rfl) (by kernel_rfl) (by kernel_rfl) (fun _ _ _ h => h) (by rfl) hHeld ?hy30007 (some 34) (by rfl) ?rest30007
     case hy30007 => (intro W hSw; (try dsimp only at hSw); go_simp; (try with_reducible rfl))
     try simp only [Act.put]
     try simp only [List.setIfInBounds_toArray]
     try simp only [List.set_cons_succ, List.set_cons_zero]
     refine anyK_step (i := 3) (by kernel_rfl) rfl (fun K hK => ?_)
     go_simp
     refine (l1some2 B5.out.drew.cur hn 3 (by omega) (by omega)).mono ?_
     rintro e w6 ⟨sv, SL, rfl, o8, bd8, hSL, hnl, cc, gg⟩
     have B6 := hid (B5.out.drew.cursor cc gg)
     have S8 := hid o8
     have HNL := hid hnl
     have BD8 := hid bd8
     clear cc gg o8 hnl bd8 B5
     go_wp2_with fail
     refine hK.out _ _ ?_ (fun hH2 => ?_)
     · exact B6.out.c3
     clear hK K hHeld
     have hHeld := hH2
     clear hH2
     try simp only [Act.put]
     try simp only [List.setIfInBounds_toArray]
     try simp only [List.set_cons_succ, List.set_cons_zero]
     by_cases hs0 : SL.length = 0
     · obtain rfl := HNL.out hs0
       refine anyK_step (i := 4) (by kernel_rfl) rfl (fun K hK => ?_)
       refine step_append_none (by rfl) _ _ _ (by rfl) U.heap.size 5 i0 1 Tryz.underlying22 hi (.slice a3 D3.length q3) D3.length (bys D3) (by rfl) B6.out.own (by rfl) ?_
       have z5 := B6.out.c3
       have zf := B6.out.froz 3
       have B7 := hid (B6.out.setV B6.out.own B6.out.bd)
       refine hK.out _ _ ?_ (fun hH2 => ?_)
       · exact z5
       clear hK K hHeld
       have hHeld := hH2
       clear hH2
       try simp only [Act.put]
       try simp only [List.setIfInBounds_toArray]
       try simp only [List.set_cons_succ, List.set_cons_zero]
       refine anyK_step (i := 5) (by kernel_rfl) rfl (fun K hK => ?_)
       go_simp
       refine hK.out _ _ ?_ (fun hH2 => ?_)
       · exact z5
       clear hK K hHeld
       have hHeld := hH2
       clear hH2
       try simp only [Act.put]
       try simp only [List.setIfInBounds_toArray]
       try simp only [List.set_cons_succ, List.set_cons_zero]
       refine anyK_last (by kernel_rfl) rfl (fun K hK => ?_)
       go_simp
       refine hK.out _ _ ?_
       clear hK K hHeld
       refine anyK_done (by kernel_rfl) ?_ _
       clear z5 zf
       clear hi hz0 hz1 hz2 B6
       have FA := finI (M := 3000) G0.out HQ.out Z0.out T0.out hgl B7.out.gr B7.out.cur B7.out.own B7.out.bd (by omega) hN3 hf3 (K := K3) (N := N3) (f := f3)
       have TQ := hid FA.1
       have AN := hid FA.2
       have TP := hid B7.out.box
       clear FA
       go_wp2_with (first
        | (refine wpList_load_row rfl 72 _ rfl p rfl 72 _ (0, 0) _ TP.out Tryz.underlying72 rfl sizeIt ?_)
        | (refine wpList_store_row rfl 72 (.tmp 2) _ rfl q0 #[.int .i64 K3, .int .i64 N3, .float .f64 f3, (.slice a3 D3.length q3)] rfl rfl 72 _ TQ.out ?s1x12 ?s2x12 ?s3x12 ?_))
       case s1x12 => simpa using sizeIt
       try case s2x12 => rfl
       case s3x12 => simp [Value.oneCell']
       refine bodyPost_ret (results_cell_row Tryz.results83 _ _ q0 72 #[.int .i64 K3, .int .i64 N3, .float .f64 f3, (.slice a3 D3.length q3)] (0, 0) _ rfl (setRow_heap _ _ _ _ _ _ TQ.out) Tryz.underlying72 rfl sizeIt) rfl ?_
       exact AN.out
     · obtain ⟨sb, so, sc, rfl⟩ : ∃ b o c, sv = .slice (some ⟨b, o, none⟩) SL.length c := by
        obtain ⟨x1, x2, e, r1, -⟩ := Reads.own S8.out BD8.out
        obtain ⟨b, o, rfl⟩ := r1.pos (by omega)
        exact ⟨b, o, x2, e⟩
       have RS8 := hid (show Reads w6 (some ⟨sb, so, none⟩) SL.length SL by obtain ⟨x1, x2, e, r1, -⟩ := Reads.own S8.out BD8.out; obtain ⟨rfl, -, -⟩ := Value.slice.inj e; exact r1)
       have hUz := B6.out.gr.size
       refine anyK_step (i := 4) (by kernel_rfl) rfl (fun K hK => ?_)
       refine step_append_lies _ (by rfl) _ _ _ (by rfl) U.heap.size 5 i0 (.int .u8 0) 1 1 Tryz.underlying22 hi hz0 hz1 hz2 rfl (by omega) (.slice a3 D3.length q3) D3.length (bys D3) (by rfl) B6.out.own ⟨sb, so, none⟩ SL.length sc (bys SL) (by rfl) (by rw [bys_length]; omega) RS8.out.news (bys_one _) (by omega) (by unfold maxLen; omega) (by omega) hUz _ rfl ?_
       intro vg vc w9 o9 g9 hat _
       have T9 := (B6.out.grow g9).1
       have z5 : w9.cell? ⟨p, 3, none⟩ = some (.slice a3 D3.length q3) := by rw [cell_of_row _ _ _ _ _ _ T9]; rfl
       have zf : w9.frozen? ⟨p, 3, none⟩ = false := frozen_of_row _ _ _ _ _ T9
       have B7 := hid (B6.out.app (D' := D3 ++ SL) g9 (by rw [List.length_append, bys_append]; exact o9) (bdapp B6.out.bd BD8.out))
       clear o9 g9 hat T9
       refine hK.out _ _ ?_ (fun hH2 => ?_)
       · exact z5
       clear hK K hHeld
       have hHeld := hH2
       clear hH2
       try simp only [Act.put]
       try simp only [List.setIfInBounds_toArray]
       try simp only [List.set_cons_succ, List.set_cons_zero]
       refine anyK_step (i := 5) (by kernel_rfl) rfl (fun K hK => ?_)
       go_simp
       refine hK.out _ _ ?_ (fun hH2 => ?_)
       · exact z5
       clear hK K hHeld
       have hHeld := hH2
       clear hH2
       try simp only [Act.put]
       try simp only [List.setIfInBounds_toArray]
       try simp only [List.set_cons_succ, List.set_cons_zero]
       refine anyK_last (by kernel_rfl) rfl (fun K hK => ?_)
       go_simp
       refine hK.out _ _ ?_
       clear hK K hHeld
       refine anyK_done (by kernel_rfl) ?_ _
       clear z5 zf
       clear hi hz0 hz1 hz2 B6
       have FA := finI (M := 3000) G0.out HQ.out Z0.out T0.out hgl B7.out.gr B7.out.cur B7.out.own B7.out.bd (by rw [List.length_append]; omega) hN3 hf3 (K := K3) (N := N3) (f := f3)
       have TQ := hid FA.1
       have AN := hid FA.2
       have TP := hid B7.out.box
       clear FA
       go_wp2_with (first
        | (refine wpList_load_row rfl 72 _ rfl p rfl 72 _ (0, 0) _ TP.out Tryz.underlying72 rfl sizeIt ?_)
        | (refine wpList_store_row rfl 72 (.tmp 2) _ rfl q0 #[.int .i64 K3, .int .i64 N3, .float .f64 f3, (.slice (some ⟨vg, 0, none⟩) (D3.length + SL.length) vc)] rfl rfl 72 _ TQ.out ?s1x13 ?s2x13 ?s3x13 ?_))
       case s1x13 => simpa using sizeIt
       try case s2x13 => rfl
       case s3x13 => simp [Value.oneCell']
       refine bodyPost_ret (results_cell_row Tryz.results83 _ _ q0 72 #[.int .i64 K3, .int .i64 N3, .float .f64 f3, (.slice (some ⟨vg, 0, none⟩) (D3.length + SL.length) vc)] (0, 0) _ rfl (setRow_heap _ _ _ _ _ _ TQ.out) Tryz.underlying72 rfl sizeIt) rfl ?_
       exact AN.out
   by_cases t4 : t = 4
   · subst t4
     obtain ⟨i0, hi, hz0, hz1, hz2⟩ := info_parts Tryz.info5
     go_wp2_with fail
     go_loopw [] (fun wr => ∃ (D2 : List Int) (a2 : Option Addr) (c2 : Nat), D2.length ≤ 1100 ∧ Hid (Bi U g p ad n cap zs wr K3 N3 f3 (.slice a2 D2.length c2) D2)) (fun wr => 2000 - lenOf ((wr.cell? ⟨p, 3, none⟩).getD undef))
     case atStart => exact ⟨D3, a3, q3, by omega, B5⟩
     case round =>
      obtain ⟨D2, a2, c2, hD2, hB⟩ := hrel
      clear B5
      have Y1 := hid hB.out.c3
      have y1d := hB.out.drew.c3
      go_wp2_with fail
      go_region_held3 (fun X => X.cell? ⟨p, 3, none⟩ = some (.slice a2 D2.length c2)) (first | exact z1 | exact y1d)
       (first
       | (go_at_call_of 79 (Value.int IntKind.i64 2); refine (l1Below hB.out.drew.cur hn 2 (by omega) (by omega)).mono ?_; rintro e w6 ⟨y, rfl, hy0, hy1, cc, gg⟩; have B6 := hid (hB.out.drew.cursor cc gg); have z1 := B6.out.c3))
      clear cc gg z1 y1d
      rw [show IntKind.i64.wrap (40 + y) = 40 + y by rw [IntKind.wrap_i64]; omega]
      by_cases hco : (D2.length : Int) < 40 + y
      · have B7 := hid (B6.out.alloc (.cells #[.int .u8 120] 5))
        have hUz := B7.out.gr.size
        have y5 := B6.out.c3
        have x5 := B7.out.c3
        clear hB
        go_wp2_with (at_builtin; refine wpList_append_lies _ rfl _ _ 22 rfl U.heap.size 5 i0 (.int .u8 0) 1 1 Tryz.underlying22 hi hz0 hz1 hz2 rfl (by omega) (.slice a2 D2.length c2) D2.length (bys D2) rfl B7.out.own ⟨w6.heap.size, 0, none⟩ 1 1 [.int .u8 120] rfl rfl (World.news_of_block (heap_alloc_new w6 _)) (by simp [Value.oneCell']) (by omega) (by unfold maxLen; omega) (by omega) hUz _ rfl ?_)
        intro vg vc w9 o9 g9 hat _
        have T9 := (B7.out.grow g9).1
        have z5 : w9.cell? ⟨p, 3, none⟩ = some (.slice a2 D2.length c2) := by rw [cell_of_row _ _ _ _ _ _ T9]; rfl
        have zf : w9.frozen? ⟨p, 3, none⟩ = false := frozen_of_row _ _ _ _ _ T9
        have B8 := hid (B7.out.app (D' := D2 ++ [120]) g9 (by rw [List.length_append, bys_append]; exact o9) (bdapp B7.out.bd (fun i => by rcases i with _ | i <;> simp)))
        clear o9 g9 hat T9 y5 x5 B7 B6
        go_wp2_with fail
        go_roundw
        case rel => exact ⟨D2 ++ [120], some ⟨vg, 0, none⟩, vc, by simp; omega, by rw [List.length_append]; exact B8⟩
        case measure => rw [B8.out.c3, Y1.out]; simp [lenOf]; omega
      · clear hB Y1 hi hz0 hz1 hz2
        have hst0 := fun w a m => run_store Tryz.prog w a (.float .f64 0) m rfl
        obtain ⟨z0, z1, z2, z3⟩ : Box w6 p K3 N3 f3 a2 D2.length c2 := B6.out.cells
        have zf0 := B6.out.froz 0
        have Bk := hid (B6.out.setK 3)
        obtain ⟨k0, k1, k2, k3⟩ : Box (w6.setCell ⟨p, 0, none⟩ (.int .i64 3)) p 3 N3 f3 a2 D2.length c2 := Bk.out.cells
        have kf1 := Bk.out.froz 1
        have Bn := hid (Bk.out.setN 0)
        obtain ⟨n0, n1, n2, n3⟩ : Box ((w6.setCell ⟨p, 0, none⟩ (.int .i64 3)).setCell ⟨p, 1, none⟩ (.int .i64 0)) p 3 0 f3 a2 D2.length c2 := Bn.out.cells
        have nf2 := Bn.out.froz 2
        have Bf := hid (Bn.out.setF 0)
        clear B6 Bk Bn
        have FA := finI (M := 3000) G0.out HQ.out Z0.out T0.out hgl Bf.out.gr Bf.out.cur Bf.out.own Bf.out.bd (by omega) (by omega) (by omega) (K := 3) (N := 0) (f := 0)
        have TQ := hid FA.1
        have AN := hid FA.2
        have TP := hid Bf.out.box
        clear FA
        go_wp2_with (first
         | (refine wpList_load_row rfl 72 _ rfl p rfl 72 _ (0, 0) _ TP.out Tryz.underlying72 rfl sizeIt ?_)
         | (refine wpList_store_row rfl 72 (.tmp 2) _ rfl q0 #[.int .i64 3, .int .i64 0, .float .f64 0, (.slice a2 D2.length c2)] rfl rfl 72 _ TQ.out ?s1x14 ?s2x14 ?s3x14 ?_))
        case s1x14 => simpa using sizeIt
        try case s2x14 => rfl
        case s3x14 => simp [Value.oneCell']
        refine bodyPost_ret (results_cell_row Tryz.results83 _ _ q0 72 #[.int .i64 3, .int .i64 0, .float .f64 0, (.slice a2 D2.length c2)] (0, 0) _ rfl (setRow_heap _ _ _ _ _ _ TQ.out) Tryz.underlying72 rfl sizeIt) rfl ?_
        exact AN.out
   by_cases t5 : t = 5
   · subst t5
     have B7 := hid (B5.out.row (K' := 2) (N' := 0) (f' := 9223372036854775808) (v' := .slice none 0 0) (D' := []) (World.ownsRow_nil _ _ _ _) (by simp))
     have TB := hid B5.out.box
     clear B5
     have hng := fun w => neg_run 0 9223372036854775808 (by decide) w
     have FA := finI (M := 3000) G0.out HQ.out Z0.out T0.out hgl B7.out.gr B7.out.cur B7.out.own B7.out.bd (by simp) (by omega) (by omega) (K := 2) (N := 0) (f := 9223372036854775808)
     have TQ := hid FA.1
     have AN := hid FA.2
     have TP := hid B7.out.box
     clear FA
     go_wp2_with (first
      | (refine wpList_store_row rfl 72 (.tmp 3) _ rfl p #[.int .i64 2, .int .i64 0, .float .f64 9223372036854775808, .slice none 0 0] rfl rfl 72 _ TB.out ?r1z2 ?r2z2 ?r3z2 ?_)
      | (refine wpList_load_row rfl 72 _ rfl p rfl 72 _ (0, 0) _ TP.out Tryz.underlying72 rfl sizeIt ?_)
      | (refine wpList_store_row rfl 72 (.tmp 2) _ rfl q0 #[.int .i64 2, .int .i64 0, .float .f64 9223372036854775808, (.slice none 0 0)] rfl rfl 72 _ TQ.out ?s1x15 ?s2x15 ?s3x15 ?_))
     case r1z2 => simpa using sizeIt
     try case r2z2 => rfl
     case r3z2 => simp [Value.oneCell']
     case s1x15 => simpa using sizeIt
     try case s2x15 => rfl
     case s3x15 => simp [Value.oneCell']
     refine bodyPost_ret (results_cell_row Tryz.results83 _ _ q0 72 #[.int .i64 2, .int .i64 0, .float .f64 9223372036854775808, (.slice none 0 0)] (0, 0) _ rfl (setRow_heap _ _ _ _ _ _ TQ.out) Tryz.underlying72 rfl sizeIt) rfl ?_
     exact AN.out
   have FA := finI (M := 3000) G0.out HQ.out Z0.out T0.out hgl B5.out.gr B5.out.cur B5.out.own B5.out.bd (by omega) hN3 hf3 (K := K3) (N := N3) (f := f3)
   have TQ := hid FA.1
   have AN := hid FA.2
   have TP := hid B5.out.box
   clear FA
   go_wp2_with (first
    | (refine wpList_load_row rfl 72 _ rfl p rfl 72 _ (0, 0) _ TP.out Tryz.underlying72 rfl sizeIt ?_)
    | (refine wpList_store_row rfl 72 (.tmp 2) _ rfl q0 #[.int .i64 K3, .int .i64 N3, .float .f64 f3, (.slice a3 D3.length q3)] rfl rfl 72 _ TQ.out ?s1x16 ?s2x16 ?s3x16 ?_))
   case s1x16 => simpa using sizeIt
   try case s2x16 => rfl
   case s3x16 => simp [Value.oneCell']
   refine bodyPost_ret (results_cell_row Tryz.results83 _ _ q0 72 #[.int .i64 K3, .int .i64 N3, .float .f64 f3, (.slice a3 D3.length q3)] (0, 0) _ rfl (setRow_heap _ _ _ _ _ _ TQ.out) Tryz.underlying72 rfl sizeIt) rfl ?_
   exact AN.out
end Go.Proofs.YtjcjoabblafboaaGreat
