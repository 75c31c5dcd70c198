/- Deeds spoilt now and then. For codes of at most 2^21 bytes. -/
import Derived.Test.YtjcjoabblafboaaGreatMgr
namespace Go.Proofs.YtjcjoabblafboaaGreat
open Go.RowKit
set_option maxRecDepth 100000
theorem grown_set14 (u : World) (G j : Nat) (x : Value) : u.grownBy (u.setCell ⟨G, j, none⟩ x) (some G) := ⟨rfl, rfl, rfl, by simp, fun i _ hne => heap_set_ne u G _ i x (fun e => hne (by rw [e]))⟩
theorem Cg.set {w u : World} {g : Nat} {ad : Option Addr} {n cap : Nat} {zs : List Int} (C : Cg w g ad n cap zs u) {G : Nat} (hG : w.heap.size ≤ G) (j : Nat) (x : Value) : Cg w g ad n cap zs (u.setCell ⟨G, j, none⟩ x) := C.new (grown_set14 u G j x) (fun k hk => by obtain rfl := Option.some.inj hk; exact hG)
theorem three14 {u : World} {b : Nat} {x0 x1 x2 : Int} {t : TypeId} (h : u.heap[b]? = some (.cells #[.int .i64 x0, .int .i64 x1, .int .i64 x2] t (0, 0))) {P : Int → Prop} (h0 : P x0) (h1 : P x1) (h2 : P x2) : ∀ i, i < 3 → ∃ x, u.cell? ⟨b, i, none⟩ = some (.int .i64 x) ∧ P x
 | 0, _ => ⟨x0, by rw [cell_of_row _ _ _ _ _ _ h]; rfl, h0⟩
 | 1, _ => ⟨x1, by rw [cell_of_row _ _ _ _ _ _ h]; rfl, h1⟩
 | 2, _ => ⟨x2, by rw [cell_of_row _ _ _ _ _ _ h]; rfl, h2⟩
 | i + 3, hi => absurd hi (by omega)
set_option maxHeartbeats 12800000 in
theorem l14bent {w u : World} {g : Nat} {ad : Option Addr} {n cap : Nat} {zs : List Int} {a : Option Addr} {c : Nat} {ts : List Tk} (C : Cg w g ad n cap zs u) (hn : n ≤ 2097152) (d : DdA u w.heap.size u.heap.size (.slice a ts.length c) ts) (hl : ts.length ≤ 100) :
 Calls Tryz.prog 38 #[.pointer (some ⟨g, 0, none⟩), .slice a ts.length c] u (AnsBt w g ad n cap zs) := by
 have HC := hid C
 have HD := hid d
 clear C d
 by_cases h0 : ts.length = 0
 · have HF := hid (show AnsBt w g ad n cap zs (.returned (.slice a ts.length c)) u from ⟨⟨_, ts, rfl, HD.out.dds, by omega⟩, HC.out⟩)
   clear HD HC
   generalize ts.length = m at *
   subst h0
   go_enter Tryz.func38, Tryz.ntmps38
   go_wp2_with fail
   go_ret
   exact HF.out
 · obtain ⟨G, rfl⟩ : ∃ G, a = some ⟨G, 0, none⟩ := by
    obtain ⟨ms, L, H, h1, o, _⟩ := HD.out.own
    rcases o.2 with ⟨e, hz⟩ | ⟨g', cp, cu, e, _⟩
    · omega
    · cases e; exact ⟨g', rfl⟩
   have hne : ¬ (ts.length : Int) = 0 := by omega
   go_enter Tryz.func38, Tryz.ntmps38
   go_wp2_with fail
   refine (l1Below HC.out.cur hn (ts.length : Int) (by omega) (by omega)).mono ?_
   rintro e u1 ⟨i, rfl, hi0, hi1, c1, g1⟩
   obtain ⟨i, rfl⟩ := Int.eq_ofNat_of_zero_le hi0
   replace HD := hid ((HD.out.grown g1 (fun k hk => ⟨HC.out.ty k hk, .inl (by obtain rfl := Option.some.inj hk; exact HC.out.lo)⟩)).mono g1.size)
   replace HC := hid (HC.out.move c1 g1)
   clear c1 g1
   go_wp2_with fail
   refine (l1Below HC.out.cur hn 12 (by omega) (by omega)).mono ?_
   rintro e u2 ⟨s, rfl, hs0, hs1, c1, g1⟩
   replace HD := hid ((HD.out.grown g1 (fun k hk => ⟨HC.out.ty k hk, .inl (by obtain rfl := Option.some.inj hk; exact HC.out.lo)⟩)).mono g1.size)
   replace HC := hid (HC.out.move c1 g1)
   clear c1 g1
   have hil : i < ts.length := by omega
   by_cases s0 : s = 0
   · subst s0
     have k0 := (HD.out.cell (i := 0) (by omega)).2.1
     rw [Nat.zero_mul, Nat.zero_add] at k0
     have hE := (HD.out.bd 0).2.2
     obtain ⟨E0, hE0⟩ : ∃ E0, (ts.getD 0 tk0).ended = E0 := ⟨_, rfl⟩
     rw [hE0] at k0 hE
     clear hE0
     have hll : (0 : Int) < (ts.length : Int) := by omega
     go_wp2_with fail
     have gA := grown_alloc14 u2 (.cells #[.int .i64 0, .int .i64 (-3), .int .i64 E0] 3)
     have HN := hid (heap_alloc_new u2 (.cells #[.int .i64 0, .int .i64 (-3), .int .i64 E0] 3))
     have hgn : u2.heap.size ≠ g := by have := HC.out.lo; have := HC.out.size; omega
     replace HD := hid ((HD.out.fresh gA).mono gA.size)
     replace HC := hid (HC.out.new gA nok)
     clear gA
     refine (l1PickP HC.out.cur hn (by omega) (by omega) hgn (fun x => -9223372036854775808 ≤ x ∧ x ≤ 9223372036854775807) (three14 HN.out (by omega) (by omega) hE)).mono ?_
     rintro e u3 ⟨x, rfl, hp, c1, g1⟩
     replace HD := hid ((HD.out.grown g1 (fun k hk => ⟨HC.out.ty k hk, .inl (by obtain rfl := Option.some.inj hk; exact HC.out.lo)⟩)).mono g1.size)
     replace HC := hid (HC.out.move c1 g1)
     clear c1 g1
     have kq := HD.out.cell hil
     have HG := hid (HD.out.lt rfl)
     have k1 := kq.1
     have kf := kq.2.2.1 (i * 5 + 1)
     obtain ⟨ts', hl', d'⟩ := (HD.out.time rfl hil x hp).1
     have HF := hid (show AnsBt w g ad n cap zs (.returned (.slice (some ⟨G, 0, none⟩) ts.length c)) (u3.setCell ⟨G, i * 5 + 1, none⟩ (.int .i64 x)) from ⟨⟨_, ts', rfl, d', by omega⟩, HC.out.set HG.out.1 _ _⟩)
     clear kq k0 HN d' HC HD
     have hii : (i : Int) < (ts.length : Int) := by omega
     go_wp2_with fail
     go_ret
     exact HF.out
   · by_cases s5 : 5 ≤ s
     · have e1 : ¬ s = 1 := by omega
       have e2 : ¬ s = 2 := by omega
       have e3 : ¬ s = 3 := by omega
       have e4 : ¬ s = 4 := by omega
       go_wp2_with fail
       go_ret
       exact ⟨⟨_, ts, rfl, HD.out.dds, by omega⟩, HC.out⟩
     · by_cases s4 : s = 4
       · subst s4
         go_wp2_with fail
         go_loopg [1] (102 - ts.length) (fun r v wr => ∃ (ts' : List Tk), ts'.length ≤ 101 ∧ r = 102 - ts'.length ∧ Hid (Cg w g ad n cap zs wr ∧ DdA wr w.heap.size wr.heap.size v ts'))
         case atStart => exact ⟨ts, by omega, rfl, hid ⟨HC.out, HD.out⟩⟩
         case round =>
          clear HD HC
          obtain ⟨ts', hl', rfl, HH⟩ := hrel
          obtain ⟨av, cv, hav, -⟩ := HH.out.2.form
          subst hav
          have HC := hid HH.out.1
          have HD := hid HH.out.2
          clear HH
          go_wp2_with fail
          refine (l1Below HC.out.cur hn 2 (by omega) (by omega)).mono ?_
          rintro e w1 ⟨j, rfl, j0, j1, c1, g1⟩
          replace HD := hid ((HD.out.grown g1 (fun k hk => ⟨HC.out.ty k hk, .inl (by obtain rfl := Option.some.inj hk; exact HC.out.lo)⟩)).mono g1.size)
          replace HC := hid (HC.out.move c1 g1)
          clear c1 g1
          by_cases hlt : (ts'.length : Int) < 100 + j
          · have gA := grown_alloc14 w1 (.cells #[.int .i64 0, .int .i64 (20000 + 2 * (ts'.length : Int)), .int .i64 (20001 + 2 * (ts'.length : Int)), .slice none 0 0, .slice none 0 0] 68)
            have HN := hid (heap_alloc_new w1 (.cells #[.int .i64 0, .int .i64 (20000 + 2 * (ts'.length : Int)), .int .i64 (20001 + 2 * (ts'.length : Int)), .slice none 0 0, .slice none 0 0] 68))
            replace HD := hid ((HD.out.fresh gA).mono gA.size)
            replace HC := hid (HC.out.new gA nok)
            clear gA
            obtain ⟨ms, oR, HP⟩ := HD.out.push
            have HRow := hid oR
            have hsz := HC.out.size
            clear oR
            obtain ⟨i0, hi0, hz0, hz1, hz2⟩ := info_parts Tryz.infoDd
            go_wp2_with (at_builtin; refine wpList_append_lies _ rfl _ _ 24 rfl w.heap.size 68 i0 (.agg #[.int .i64 0, .int .i64 0, .int .i64 0, .slice none 0 0, .slice none 0 0]) 5 72 Tryz.underlying24 hi0 hz0 hz1 hz2 rfl (by omega) (.slice av ts'.length cv) ts'.length (cellsV ts' ms) rfl HRow.out ⟨w1.heap.size, 0, none⟩ 1 1 [.int .i64 0, .int .i64 (20000 + 2 * (ts'.length : Int)), .int .i64 (20001 + 2 * (ts'.length : Int)), .slice none 0 0, .slice none 0 0] rfl rfl (World.news_of_block HN.out) (by simp [Value.oneCell']) (by omega) (by unfold maxLen; omega) (by omega) hsz _ rfl ?_)
            intro gg cc w9 o9 g9 _ _
            have D9 := HP (t := ⟨0, 20000 + 2 * (ts'.length : Int), 20001 + 2 * (ts'.length : Int), false, [], [], false, false⟩) (m := ⟨.slice none 0 0, [], .slice none 0 0, []⟩) (hi' := (w1.alloc (.cells #[.int .i64 0, .int .i64 (20000 + 2 * (ts'.length : Int)), .int .i64 (20001 + 2 * (ts'.length : Int)), .slice none 0 0, .slice none 0 0] 68)).heap.size) ⟨Rwm.nil _ _ _ _ _, Rwm.nil _ _ _ _ _, Nat.zero_le _, Nat.zero_le _⟩ (Nat.le_refl _) hsz g9.size g9.size ⟨⟨by dsimp only; omega, by dsimp only; omega⟩, ⟨by dsimp only; omega, by dsimp only; omega⟩, ⟨by dsimp only; omega, by dsimp only; omega⟩⟩ o9 g9
            have H9 := hid (And.intro (HC.out.new g9 (fun k hk => (HRow.out.lt k hk).1)) D9)
            clear D9 o9 g9 HP HRow HN HC HD
            go_wp2_with fail
            go_roundg (102 - (ts'.length + 1))
            case measure => omega
            case rel => exact ⟨_, by rw [List.length_append, List.length_singleton]; omega, by rw [List.length_append, List.length_singleton], H9⟩
          · go_wp2_with fail
            go_ret
            exact ⟨⟨_, ts', rfl, HD.out.dds, by omega⟩, HC.out⟩
       · by_cases s1 : s = 1
         · subst s1
           have kb := (HD.out.cell hil).1
           have hB := (HD.out.bd i).2.1
           have k0 := (HD.out.cell (i := 0) (by omega)).2.1
           rw [Nat.zero_mul, Nat.zero_add] at k0
           have hE := (HD.out.bd 0).2.2
           obtain ⟨E0, hE0⟩ : ∃ E0, (ts.getD 0 tk0).ended = E0 := ⟨_, rfl⟩
           obtain ⟨B0, hB0⟩ : ∃ B0, (ts.getD i tk0).begun = B0 := ⟨_, rfl⟩
           rw [hE0] at k0 hE
           rw [hB0] at kb hB
           clear hE0 hB0
           have hln : 0 < ts.length := by omega
           have hll : (0 : Int) < (ts.length : Int) := by omega
           have hii : (i : Int) < (ts.length : Int) := by omega
           have HS0 := hid (show (fun W => W.cell? ⟨G, i * 5 + 1, none⟩ = some (.int .i64 B0) ∧ W.cell? ⟨G, 2, none⟩ = some (.int .i64 E0)) u2.drew from ⟨kb, k0⟩)
           clear kb k0
           replace HD := hid (HD.out.fresh (u' := u2.drew) ⟨rfl, rfl, rfl, Nat.le_refl _, fun _ _ _ => rfl⟩)
           replace HC := hid (HC.out.new (u' := u2.drew) ⟨rfl, rfl, rfl, Nat.le_refl _, fun _ _ _ => rfl⟩ nok)
           replace HD := hid (show DdA u2.drew w.heap.size u2.drew.heap.size (.slice (some ⟨G, 0, none⟩) ts.length c) ts from HD.out)
           go_wp2
           refine region_K 16 (fun W => W.cell? ⟨G, i * 5 + 1, none⟩ = some (.int .i64 B0) ∧ W.cell? ⟨G, 2, none⟩ = some (.int .i64 E0)) (by kernel_rfl) ?_ (fun hHeld => ?_)
           · exact HS0.out
           generalize u2.drew = v0 at *
           refine anyK_take (i := 0) (v := ?vc0) rfl (by kernel_rfl) (by kernel_rfl) (by kernel_rfl) (by kernel_rfl) (fun _ _ _ h => h) (by rfl) hHeld ?hyc0 (some 31) (by rfl) ?restc0
           case hyc0 => (intro W hSw; obtain ⟨x0, x1⟩ := hSw; go_simp; (try with_reducible rfl))
           try simp only [Act.put]
           try simp only [List.setIfInBounds_toArray]
           try simp only [List.set_cons_succ, List.set_cons_zero]
           refine anyK_take (i := 1) (v := ?vc1) rfl (by kernel_rfl) (by kernel_rfl) (by kernel_rfl) (by kernel_rfl) (fun _ _ _ h => h) (by rfl) hHeld ?hyc1 (some 32) (by rfl) ?restc1
           case hyc1 => (intro W hSw; obtain ⟨x0, x1⟩ := hSw; go_simp; (try with_reducible rfl))
           try simp only [Act.put]
           try simp only [List.setIfInBounds_toArray]
           try simp only [List.set_cons_succ, List.set_cons_zero]
           refine anyK_take (i := 2) (v := ?vc2) rfl (by kernel_rfl) (by kernel_rfl) (by kernel_rfl) (by kernel_rfl) (fun _ _ _ h => h) (by rfl) hHeld ?hyc2 (some 33) (by rfl) ?restc2
           case hyc2 => (intro W hSw; obtain ⟨x0, x1⟩ := hSw; go_simp; (try with_reducible rfl))
           try simp only [Act.put]
           try simp only [List.setIfInBounds_toArray]
           try simp only [List.set_cons_succ, List.set_cons_zero]
           refine anyK_take (i := 3) (v := ?vc3) rfl (by kernel_rfl) (by kernel_rfl) (by kernel_rfl) (by kernel_rfl) (fun _ _ _ h => h) (by rfl) hHeld ?hyc3 (some 34) (by rfl) ?restc3
           case hyc3 => (intro W hSw; obtain ⟨x0, x1⟩ := hSw; go_simp; (try with_reducible rfl))
           try simp only [Act.put]
           try simp only [List.setIfInBounds_toArray]
           try simp only [List.set_cons_succ, List.set_cons_zero]
           refine anyK_take (i := 4) (v := ?vc4) rfl (by kernel_rfl) (by kernel_rfl) (by kernel_rfl) (by kernel_rfl) (fun _ _ _ h => h) (by rfl) hHeld ?hyc4 (some 35) (by rfl) ?restc4
           case hyc4 => (intro W hSw; obtain ⟨x0, x1⟩ := hSw; go_simp; (try with_reducible rfl))
           try simp only [Act.put]
           try simp only [List.setIfInBounds_toArray]
           try simp only [List.set_cons_succ, List.set_cons_zero]
           refine anyK_take (i := 5) (v := ?vc5) rfl (by kernel_rfl) (by kernel_rfl) (by kernel_rfl) (by kernel_rfl) (fun _ _ _ h => h) (by rfl) hHeld ?hyc5 (some 36) (by rfl) ?restc5
           case hyc5 => (intro W hSw; obtain ⟨x0, x1⟩ := hSw; go_simp; (try with_reducible rfl))
           try simp only [Act.put]
           try simp only [List.setIfInBounds_toArray]
           try simp only [List.set_cons_succ, List.set_cons_zero]
           refine anyK_take (i := 6) (v := ?vc6) rfl (by kernel_rfl) (by kernel_rfl) (by kernel_rfl) (by kernel_rfl) (fun _ _ _ h => h) (by rfl) hHeld ?hyc6 (some 37) (by rfl) ?restc6
           case hyc6 => (intro W hSw; obtain ⟨x0, x1⟩ := hSw; go_simp; (try with_reducible rfl))
           try simp only [Act.put]
           try simp only [List.setIfInBounds_toArray]
           try simp only [List.set_cons_succ, List.set_cons_zero]
           refine anyK_take (i := 7) (v := ?vc7) rfl (by kernel_rfl) (by kernel_rfl) (by kernel_rfl) (by kernel_rfl) (fun _ _ _ h => h) (by rfl) hHeld ?hyc7 (some 38) (by rfl) ?restc7
           case hyc7 => (intro W hSw; obtain ⟨x0, x1⟩ := hSw; go_simp; (try with_reducible rfl))
           try simp only [Act.put]
           try simp only [List.setIfInBounds_toArray]
           try simp only [List.set_cons_succ, List.set_cons_zero]
           refine anyK_take (i := 8) (v := ?vc8) rfl (by kernel_rfl) (by kernel_rfl) (by kernel_rfl) (by kernel_rfl) (fun _ _ _ h => h) (by rfl) hHeld ?hyc8 (some 39) (by rfl) ?restc8
           case hyc8 => (intro W hSw; obtain ⟨x0, x1⟩ := hSw; go_simp; (try with_reducible rfl))
           try simp only [Act.put]
           try simp only [List.setIfInBounds_toArray]
           try simp only [List.set_cons_succ, List.set_cons_zero]
           refine anyK_take (i := 9) (v := ?vc9) rfl (by kernel_rfl) (by kernel_rfl) (by kernel_rfl) (by kernel_rfl) (fun _ _ _ h => h) (by rfl) hHeld ?hyc9 (some 40) (by rfl) ?restc9
           case hyc9 => (intro W hSw; obtain ⟨x0, x1⟩ := hSw; go_simp; (try with_reducible rfl))
           try simp only [Act.put]
           try simp only [List.setIfInBounds_toArray]
           try simp only [List.set_cons_succ, List.set_cons_zero]
           refine anyK_take (i := 10) (v := ?vc10) rfl (by kernel_rfl) (by kernel_rfl) (by kernel_rfl) (by kernel_rfl) (fun _ _ _ h => h) (by rfl) hHeld ?hyc10 (some 41) (by rfl) ?restc10
           case hyc10 => (intro W hSw; obtain ⟨x0, x1⟩ := hSw; go_simp; (try with_reducible rfl))
           try simp only [Act.put]
           try simp only [List.setIfInBounds_toArray]
           try simp only [List.set_cons_succ, List.set_cons_zero]
           refine anyK_take (i := 11) (v := ?vc11) rfl (by kernel_rfl) (by kernel_rfl) (by kernel_rfl) (by kernel_rfl) (fun _ _ _ h => h) (by rfl) hHeld ?hyc11 (some 42) (by rfl) ?restc11
           case hyc11 => (intro W hSw; obtain ⟨x0, x1⟩ := hSw; go_simp; (try with_reducible rfl))
           try simp only [Act.put]
           try simp only [List.setIfInBounds_toArray]
           try simp only [List.set_cons_succ, List.set_cons_zero]
           refine anyK_step (i := 12) (by kernel_rfl) rfl (fun KP hK => ?_)
           go_simp
           have gA := grown_alloc14 v0 (.cells #[.int .i64 0, .int .i64 B0, .int .i64 E0] 3)
           have HN := hid (heap_alloc_new v0 (.cells #[.int .i64 0, .int .i64 B0, .int .i64 E0] 3))
           have hgn : v0.heap.size ≠ g := by have := HC.out.lo; have := HC.out.size; omega
           have hGs : w.heap.size ≤ G := (HD.out.lt (g := G) rfl).1
           replace HD := hid ((HD.out.fresh gA).mono gA.size)
           replace HC := hid (HC.out.new gA nok)
           replace HS0 := hid (show (fun W => W.cell? ⟨G, i * 5 + 1, none⟩ = some (.int .i64 B0) ∧ W.cell? ⟨G, 2, none⟩ = some (.int .i64 E0)) (v0.alloc (.cells #[.int .i64 0, .int .i64 B0, .int .i64 E0] 3)) from ⟨gA.cell HS0.out.1 (by simp), gA.cell HS0.out.2 (by simp)⟩)
           clear gA hHeld
           refine hK.out _ _ HS0.out (fun hHeld => ?_)
           clear hK KP
           try simp only [Act.put]
           try simp only [List.setIfInBounds_toArray]
           try simp only [List.set_cons_succ, List.set_cons_zero]
           refine anyK_step (i := 13) (by kernel_rfl) rfl (fun KP hK => ?_)
           go_simp
           refine (l1PickP HC.out.cur hn (by omega) (by omega) hgn (fun x => -9223372036854775808 ≤ x ∧ x ≤ 9223372036854775807) (three14 HN.out (by omega) hB hE)).mono ?_
           rintro e u3 ⟨x, rfl, hp, c1, g1⟩
           replace HS0 := hid (show (fun W => W.cell? ⟨G, i * 5 + 1, none⟩ = some (.int .i64 B0) ∧ W.cell? ⟨G, 2, none⟩ = some (.int .i64 E0)) u3 from ⟨g1.cell HS0.out.1 (by have := HC.out.lo; have := hGs; simp; omega), g1.cell HS0.out.2 (by have := HC.out.lo; have := hGs; simp; omega)⟩)
           replace HD := hid ((HD.out.grown g1 (fun k hk => ⟨HC.out.ty k hk, .inl (by obtain rfl := Option.some.inj hk; exact HC.out.lo)⟩)).mono g1.size)
           replace HC := hid (HC.out.move c1 g1)
           clear c1 g1
           go_wp2_with fail
           clear hHeld
           refine hK.out _ _ HS0.out (fun hHeld => ?_)
           clear hK KP
           try simp only [Act.put]
           try simp only [List.setIfInBounds_toArray]
           try simp only [List.set_cons_succ, List.set_cons_zero]
           refine anyK_step (i := 14) (by kernel_rfl) rfl (fun KP hK => ?_)
           go_simp
           clear hHeld
           refine hK.out _ _ HS0.out (fun hHeld => ?_)
           clear hK KP
           try simp only [Act.put]
           try simp only [List.setIfInBounds_toArray]
           try simp only [List.set_cons_succ, List.set_cons_zero]
           refine anyK_step (i := 15) (by kernel_rfl) rfl (fun KP hK => ?_)
           go_simp
           clear hHeld
           refine hK.out _ _ HS0.out (fun hHeld => ?_)
           clear hK KP
           try simp only [Act.put]
           try simp only [List.setIfInBounds_toArray]
           try simp only [List.set_cons_succ, List.set_cons_zero]
           have k1 := (HD.out.cell hil).2.1
           have kf := (HD.out.cell hil).2.2.1 (i * 5 + 2)
           obtain ⟨ts', hl', d'⟩ := (HD.out.time rfl hil x hp).2
           have HF := hid (show AnsBt w g ad n cap zs (.returned (.slice (some ⟨G, 0, none⟩) ts.length c)) (u3.setCell ⟨G, i * 5 + 2, none⟩ (.int .i64 x)) from ⟨⟨_, ts', rfl, d', by omega⟩, HC.out.set hGs _ _⟩)
           refine anyK_last (by kernel_rfl) rfl (fun KP hK => ?_)
           go_simp
           refine hK.out _ _ ?_
           clear hK KP hHeld k1 kf d'
           try simp only [Act.put]
           refine anyK_done (by kernel_rfl) ?_ _
           go_wp2_with fail
           go_ret
           exact HF.out
         · by_cases s2 : s = 2
           · subst s2
             obtain ⟨ms, L, H, hdm⟩ := HD.out.opened
             obtain ⟨ay, cy, hy, -⟩ := (hdm.rows i hil).1.rd.form
             have hn9 := (hdm.rows i hil).1.n1
             have kb := (hdm.cells hil).1
             have hGs := (hdm.cells hil).2.2.2.1
             have HM := hid hdm
             obtain ⟨nr, hnr⟩ : ∃ nr, (ts.getD i tk0).rs.length = nr := ⟨_, rfl⟩
             rw [hnr] at hy hn9
             rw [hy] at kb
             have HY := hid hy
             have HNr := hid hnr
             clear hy hnr hdm HD
             have hii : (i : Int) < (ts.length : Int) := by omega
             have HS0 := hid (show (fun W => W.cell? ⟨G, i * 5 + 3, none⟩ = some (.slice ay nr cy)) u2.drew from kb)
             clear kb
             replace HM := hid (HM.out.fresh (u' := u2.drew) ⟨rfl, rfl, rfl, Nat.le_refl _, fun _ _ _ => rfl⟩)
             replace HC := hid (HC.out.new (u' := u2.drew) ⟨rfl, rfl, rfl, Nat.le_refl _, fun _ _ _ => rfl⟩ nok)
             replace HM := hid (show DdM u2.drew w.heap.size u2.drew.heap.size (.slice (some ⟨G, 0, none⟩) ts.length c) ts ms L H from HM.out)
             go_wp2
             refine region_K 16 (fun W => W.cell? ⟨G, i * 5 + 3, none⟩ = some (.slice ay nr cy)) (by kernel_rfl) ?_ (fun hHeld => ?_)
             · exact HS0.out
             generalize u2.drew = v0 at *
             refine anyK_take (i := 0) (v := ?vr0) rfl (by kernel_rfl) (by kernel_rfl) (by kernel_rfl) (by kernel_rfl) (fun _ _ _ h => h) (by rfl) hHeld ?hyr0 (some 49) (by rfl) ?restr0
             case hyr0 => (intro W hSw; (try dsimp only at hSw); go_simp; (try with_reducible rfl))
             try simp only [Act.put]
             try simp only [List.setIfInBounds_toArray]
             try simp only [List.set_cons_succ, List.set_cons_zero]
             refine anyK_take (i := 1) (v := ?vr1) rfl (by kernel_rfl) (by kernel_rfl) (by kernel_rfl) (by kernel_rfl) (fun _ _ _ h => h) (by rfl) hHeld ?hyr1 (some 50) (by rfl) ?restr1
             case hyr1 => (intro W hSw; (try dsimp only at hSw); go_simp; (try with_reducible rfl))
             try simp only [Act.put]
             try simp only [List.setIfInBounds_toArray]
             try simp only [List.set_cons_succ, List.set_cons_zero]
             refine anyK_take (i := 2) (v := ?vr2) rfl (by kernel_rfl) (by kernel_rfl) (by kernel_rfl) (by kernel_rfl) (fun _ _ _ h => h) (by rfl) hHeld ?hyr2 (some 51) (by rfl) ?restr2
             case hyr2 => (intro W hSw; (try dsimp only at hSw); go_simp; (try with_reducible rfl))
             try simp only [Act.put]
             try simp only [List.setIfInBounds_toArray]
             try simp only [List.set_cons_succ, List.set_cons_zero]
             refine anyK_take (i := 3) (v := ?vr3) rfl (by kernel_rfl) (by kernel_rfl) (by kernel_rfl) (by kernel_rfl) (fun _ _ _ h => h) (by rfl) hHeld ?hyr3 (some 52) (by rfl) ?restr3
             case hyr3 => (intro W hSw; (try dsimp only at hSw); go_simp; (try with_reducible rfl))
             try simp only [Act.put]
             try simp only [List.setIfInBounds_toArray]
             try simp only [List.set_cons_succ, List.set_cons_zero]
             refine anyK_take (i := 4) (v := ?vr4) rfl (by kernel_rfl) (by kernel_rfl) (by kernel_rfl) (by kernel_rfl) (fun _ _ _ h => h) (by rfl) hHeld ?hyr4 (some 53) (by rfl) ?restr4
             case hyr4 => (intro W hSw; (try dsimp only at hSw); go_simp; (try with_reducible rfl))
             try simp only [Act.put]
             try simp only [List.setIfInBounds_toArray]
             try simp only [List.set_cons_succ, List.set_cons_zero]
             refine anyK_take (i := 5) (v := ?vr5) rfl (by kernel_rfl) (by kernel_rfl) (by kernel_rfl) (by kernel_rfl) (fun _ _ _ h => h) (by rfl) hHeld ?hyr5 (some 54) (by rfl) ?restr5
             case hyr5 => (intro W hSw; (try dsimp only at hSw); go_simp; (try with_reducible rfl))
             try simp only [Act.put]
             try simp only [List.setIfInBounds_toArray]
             try simp only [List.set_cons_succ, List.set_cons_zero]
             refine anyK_take (i := 6) (v := ?vr6) rfl (by kernel_rfl) (by kernel_rfl) (by kernel_rfl) (by kernel_rfl) (fun _ _ _ h => h) (by rfl) hHeld ?hyr6 (some 55) (by rfl) ?restr6
             case hyr6 => (intro W hSw; (try dsimp only at hSw); go_simp; (try with_reducible rfl))
             try simp only [Act.put]
             try simp only [List.setIfInBounds_toArray]
             try simp only [List.set_cons_succ, List.set_cons_zero]
             refine anyK_take (i := 7) (v := ?vr7) rfl (by kernel_rfl) (by kernel_rfl) (by kernel_rfl) (by kernel_rfl) (fun _ _ _ h => h) (by rfl) hHeld ?hyr7 (some 56) (by rfl) ?restr7
             case hyr7 => (intro W hSw; (try dsimp only at hSw); go_simp; (try with_reducible rfl))
             try simp only [Act.put]
             try simp only [List.setIfInBounds_toArray]
             try simp only [List.set_cons_succ, List.set_cons_zero]
             refine anyK_take (i := 9) (v := ?vr9) rfl (by kernel_rfl) (by kernel_rfl) (by kernel_rfl) (by kernel_rfl) (fun _ _ _ h => h) (by rfl) hHeld ?hyr9 (some 58) (by rfl) ?restr9
             case hyr9 => (intro W hSw; (try dsimp only at hSw); go_simp; (try with_reducible rfl))
             try simp only [Act.put]
             try simp only [List.setIfInBounds_toArray]
             try simp only [List.set_cons_succ, List.set_cons_zero]
             refine anyK_step (i := 8) (by kernel_rfl) rfl (fun KP hK => ?_)
             go_simp
             refine (l3key HC.out.cur hn).mono ?_
             rintro e u3 ⟨K1, N1, F1, v1, D1, rfl, o1, q1, m1, n1, Q1, c1, g1⟩
             have I1 := (show Dit u3 K1 N1 F1 v1 D1 from ⟨Ry.own o1 q1, n1, Q1, by omega⟩)
             obtain ⟨a1, d1, rfl, -, -⟩ := I1.form
             replace I1 := hid I1
             replace HS0 := hid (show (fun W => W.cell? ⟨G, i * 5 + 3, none⟩ = some (.slice ay nr cy)) u3 from g1.cell HS0.out (by have := HC.out.lo; have := hGs; simp; omega))
             replace HM := hid ((HM.out.grown g1 (fun k hk => ⟨HC.out.ty k hk, .inl (by obtain rfl := Option.some.inj hk; exact HC.out.lo)⟩)).mono g1.size)
             replace HC := hid (HC.out.move c1 g1)
             clear o1 q1 m1 n1 Q1 c1 g1
             go_wp2_with fail
             clear hHeld
             refine hK.out _ _ HS0.out (fun hHeld => ?_)
             clear hK KP
             try simp only [Act.put]
             try simp only [List.setIfInBounds_toArray]
             try simp only [List.set_cons_succ, List.set_cons_zero]
             refine anyK_step (i := 10) (by kernel_rfl) rfl (fun KP hK => ?_)
             go_simp
             refine (l3any HC.out.cur hn).mono ?_
             rintro e u4 ⟨K2, N2, F2, v2, D2, rfl, o1, q1, m1, n1, Q1, c1, g1⟩
             have I2 := (show Dit u4 K2 N2 F2 v2 D2 from ⟨Ry.own o1 q1, n1, Q1, by omega⟩)
             obtain ⟨a2, d2, rfl, -, -⟩ := I2.form
             replace I2 := hid I2
             replace I1 := hid (I1.out.grown g1 HC.out.ty)
             replace HS0 := hid (show (fun W => W.cell? ⟨G, i * 5 + 3, none⟩ = some (.slice ay nr cy)) u4 from g1.cell HS0.out (by have := HC.out.lo; have := hGs; simp; omega))
             replace HM := hid ((HM.out.grown g1 (fun k hk => ⟨HC.out.ty k hk, .inl (by obtain rfl := Option.some.inj hk; exact HC.out.lo)⟩)).mono g1.size)
             replace HC := hid (HC.out.move c1 g1)
             clear o1 q1 m1 n1 Q1 c1 g1
             go_wp2_with fail
             clear hHeld
             refine hK.out _ _ HS0.out (fun hHeld => ?_)
             clear hK KP
             try simp only [Act.put]
             try simp only [List.setIfInBounds_toArray]
             try simp only [List.set_cons_succ, List.set_cons_zero]
             refine anyK_step (i := 11) (by kernel_rfl) rfl (fun KP hK => ?_)
             go_simp
             clear hHeld
             refine hK.out _ _ HS0.out (fun hHeld => ?_)
             clear hK KP
             try simp only [Act.put]
             try simp only [List.setIfInBounds_toArray]
             try simp only [List.set_cons_succ, List.set_cons_zero]
             refine anyK_step (i := 12) (by kernel_rfl) rfl (fun KP hK => ?_)
             go_simp
             have gA := grown_alloc14 u4 (.cells #[.int .i64 K1, .int .i64 N1, .float .f64 F1, .slice a1 D1.length d1, .int .i64 K2, .int .i64 N2, .float .f64 F2, .slice a2 D2.length d2] 74)
             have HN := hid (heap_alloc_new u4 (.cells #[.int .i64 K1, .int .i64 N1, .float .f64 F1, .slice a1 D1.length d1, .int .i64 K2, .int .i64 N2, .float .f64 F2, .slice a2 D2.length d2] 74))
             replace HM := hid ((HM.out.fresh gA).mono gA.size)
             replace HC := hid (HC.out.new gA nok)
             replace I1 := hid (I1.out.grown gA nok)
             replace I2 := hid (I2.out.grown gA nok)
             have HS2 := hid (show (fun W => W.cell? ⟨G, i * 5 + 3, none⟩ = some (.slice ay nr cy)) (u4.alloc (.cells #[.int .i64 K1, .int .i64 N1, .float .f64 F1, .slice a1 D1.length d1, .int .i64 K2, .int .i64 N2, .float .f64 F2, .slice a2 D2.length d2] 74)) from gA.cell HS0.out (by simp))
             clear gA hHeld HS0
             refine hK.out _ _ HS2.out (fun hHeld => ?_)
             clear hK KP
             try simp only [Act.put]
             try simp only [List.setIfInBounds_toArray]
             try simp only [List.set_cons_succ, List.set_cons_zero]
             obtain ⟨w2, hw2⟩ : ∃ w2, u4.alloc (.cells #[.int .i64 K1, .int .i64 N1, .float .f64 F1, .slice a1 D1.length d1, .int .i64 K2, .int .i64 N2, .float .f64 F2, .slice a2 D2.length d2] 74) = w2 := ⟨_, rfl⟩
             rw [hw2] at HS2 HM HC HN hHeld I1 I2 ⊢
             clear hw2
             obtain ⟨xs, oR, HP⟩ := HM.out.read rfl hil
             rw [HY.out, HNr.out] at oR
             rw [HY.out, HNr.out] at HP
             have HRow := hid oR
             clear oR
             obtain ⟨i0, hi0, hz0, hz1, hz2⟩ := info_parts Tryz.infoSp
             have hls := HC.out.size
             refine anyK_step (i := 13) (by kernel_rfl) rfl (fun KP hK => ?_)
             refine step_append14 rfl _ _ 65 rfl w.heap.size 74 i0 (.agg #[.int .i64 0, .int .i64 0, .float .f64 0, .slice none 0 0, .int .i64 0, .int .i64 0, .float .f64 0, .slice none 0 0]) 8 96 Tryz.underlying65 hi0 hz0 hz1 hz2 rfl (by decide) _ nr _ rfl HRow.out ⟨u4.heap.size, 0, none⟩ 1 1 [.int .i64 K1, .int .i64 N1, .float .f64 F1, .slice a1 D1.length d1, .int .i64 K2, .int .i64 N2, .float .f64 F2, .slice a2 D2.length d2] rfl rfl (World.news_of_block HN.out) ?g2r (by unfold maxLen; omega) (by omega) (by omega) ?_
             case g2r => intro u hu; simp only [List.mem_cons, List.not_mem_nil, or_false] at hu; rcases hu with rfl | rfl | rfl | rfl | rfl | rfl | rfl | rfl <;> rfl
             intro a8 c8 w8 o8 g8 hat
             obtain ⟨kc, kf, ts', hl', d'⟩ := HP (s1 := ⟨K1, N1, F1, D1⟩) (s2 := ⟨K2, N2, F2, D2⟩) I1.out I2.out o8 g8
             have HF := hid (show AnsBt w g ad n cap zs (.returned (.slice (some ⟨G, 0, none⟩) ts.length c)) (w8.setCell ⟨G, i * 5 + 3, none⟩ (.slice a8 (nr + 1) c8)) from ⟨⟨_, ts', rfl, d', by omega⟩, (HC.out.new g8 (fun k hk => (HRow.out.lt k hk).1)).set hGs _ _⟩)
             have HS8 := hid (show (fun W => W.cell? ⟨G, i * 5 + 3, none⟩ = some (.slice ay nr cy)) w8 from kc)
             have HFr := hid kf
             clear hat o8 g8 hHeld HRow HP hls HN HS2 hi0 hz0 hz1 hz2 I1 kc kf d' HM HC HY HNr I2
             refine hK.out _ _ HS8.out (fun hHeld => ?_)
             clear hK KP
             try simp only [Act.put]
             try simp only [List.setIfInBounds_toArray]
             try simp only [List.set_cons_succ, List.set_cons_zero]
             refine anyK_step (i := 14) (by kernel_rfl) rfl (fun KP hK => ?_)
             go_simp
             clear hHeld
             refine hK.out _ _ HS8.out (fun hHeld => ?_)
             clear hK KP
             try simp only [Act.put]
             try simp only [List.setIfInBounds_toArray]
             try simp only [List.set_cons_succ, List.set_cons_zero]
             refine anyK_step (i := 15) (by kernel_rfl) rfl (fun KP hK => ?_)
             go_simp
             clear hHeld
             refine hK.out _ _ HS8.out (fun hHeld => ?_)
             clear hK KP
             try simp only [Act.put]
             try simp only [List.setIfInBounds_toArray]
             try simp only [List.set_cons_succ, List.set_cons_zero]
             have kc := HS8.out
             have kf := HFr.out
             dsimp only at kc
             refine anyK_last (by kernel_rfl) rfl (fun KP hK => ?_)
             go_simp
             refine hK.out _ _ ?_
             clear hK KP hHeld kc kf
             try simp only [Act.put]
             refine anyK_done (by kernel_rfl) ?_ _
             go_wp2_with fail
             go_ret
             exact HF.out
           · obtain rfl : s = 3 := by omega
             obtain ⟨ms, L, H, hdm⟩ := HD.out.opened
             obtain ⟨ay, cy, hy, -⟩ := (hdm.rows i hil).1.wr.form
             have hn9 := (hdm.rows i hil).1.n2
             have kb := (hdm.cells hil).2.1
             have hGs := (hdm.cells hil).2.2.2.1
             have HM := hid hdm
             obtain ⟨nr, hnr⟩ : ∃ nr, (ts.getD i tk0).ws.length = nr := ⟨_, rfl⟩
             rw [hnr] at hy hn9
             rw [hy] at kb
             have HY := hid hy
             have HNr := hid hnr
             clear hy hnr hdm HD
             have hii : (i : Int) < (ts.length : Int) := by omega
             have HS0 := hid (show (fun W => W.cell? ⟨G, i * 5 + 4, none⟩ = some (.slice ay nr cy)) u2.drew from kb)
             clear kb
             replace HM := hid (HM.out.fresh (u' := u2.drew) ⟨rfl, rfl, rfl, Nat.le_refl _, fun _ _ _ => rfl⟩)
             replace HC := hid (HC.out.new (u' := u2.drew) ⟨rfl, rfl, rfl, Nat.le_refl _, fun _ _ _ => rfl⟩ nok)
             replace HM := hid (show DdM u2.drew w.heap.size u2.drew.heap.size (.slice (some ⟨G, 0, none⟩) ts.length c) ts ms L H from HM.out)
             go_wp2
             refine region_K 13 (fun W => W.cell? ⟨G, i * 5 + 4, none⟩ = some (.slice ay nr cy)) (by kernel_rfl) ?_ (fun hHeld => ?_)
             · exact HS0.out
             generalize u2.drew = v0 at *
             refine anyK_take (i := 0) (v := ?vq0) rfl (by kernel_rfl) (by kernel_rfl) (by kernel_rfl) (by kernel_rfl) (fun _ _ _ h => h) (by rfl) hHeld ?hyq0 (some 67) (by rfl) ?restq0
             case hyq0 => (intro W hSw; (try dsimp only at hSw); go_simp; (try with_reducible rfl))
             try simp only [Act.put]
             try simp only [List.setIfInBounds_toArray]
             try simp only [List.set_cons_succ, List.set_cons_zero]
             refine anyK_take (i := 1) (v := ?vq1) rfl (by kernel_rfl) (by kernel_rfl) (by kernel_rfl) (by kernel_rfl) (fun _ _ _ h => h) (by rfl) hHeld ?hyq1 (some 68) (by rfl) ?restq1
             case hyq1 => (intro W hSw; (try dsimp only at hSw); go_simp; (try with_reducible rfl))
             try simp only [Act.put]
             try simp only [List.setIfInBounds_toArray]
             try simp only [List.set_cons_succ, List.set_cons_zero]
             refine anyK_take (i := 2) (v := ?vq2) rfl (by kernel_rfl) (by kernel_rfl) (by kernel_rfl) (by kernel_rfl) (fun _ _ _ h => h) (by rfl) hHeld ?hyq2 (some 69) (by rfl) ?restq2
             case hyq2 => (intro W hSw; (try dsimp only at hSw); go_simp; (try with_reducible rfl))
             try simp only [Act.put]
             try simp only [List.setIfInBounds_toArray]
             try simp only [List.set_cons_succ, List.set_cons_zero]
             refine anyK_take (i := 3) (v := ?vq3) rfl (by kernel_rfl) (by kernel_rfl) (by kernel_rfl) (by kernel_rfl) (fun _ _ _ h => h) (by rfl) hHeld ?hyq3 (some 70) (by rfl) ?restq3
             case hyq3 => (intro W hSw; (try dsimp only at hSw); go_simp; (try with_reducible rfl))
             try simp only [Act.put]
             try simp only [List.setIfInBounds_toArray]
             try simp only [List.set_cons_succ, List.set_cons_zero]
             refine anyK_take (i := 4) (v := ?vq4) rfl (by kernel_rfl) (by kernel_rfl) (by kernel_rfl) (by kernel_rfl) (fun _ _ _ h => h) (by rfl) hHeld ?hyq4 (some 71) (by rfl) ?restq4
             case hyq4 => (intro W hSw; (try dsimp only at hSw); go_simp; (try with_reducible rfl))
             try simp only [Act.put]
             try simp only [List.setIfInBounds_toArray]
             try simp only [List.set_cons_succ, List.set_cons_zero]
             refine anyK_take (i := 5) (v := ?vq5) rfl (by kernel_rfl) (by kernel_rfl) (by kernel_rfl) (by kernel_rfl) (fun _ _ _ h => h) (by rfl) hHeld ?hyq5 (some 72) (by rfl) ?restq5
             case hyq5 => (intro W hSw; (try dsimp only at hSw); go_simp; (try with_reducible rfl))
             try simp only [Act.put]
             try simp only [List.setIfInBounds_toArray]
             try simp only [List.set_cons_succ, List.set_cons_zero]
             refine anyK_take (i := 6) (v := ?vq6) rfl (by kernel_rfl) (by kernel_rfl) (by kernel_rfl) (by kernel_rfl) (fun _ _ _ h => h) (by rfl) hHeld ?hyq6 (some 73) (by rfl) ?restq6
             case hyq6 => (intro W hSw; (try dsimp only at hSw); go_simp; (try with_reducible rfl))
             try simp only [Act.put]
             try simp only [List.setIfInBounds_toArray]
             try simp only [List.set_cons_succ, List.set_cons_zero]
             refine anyK_take (i := 7) (v := ?vq7) rfl (by kernel_rfl) (by kernel_rfl) (by kernel_rfl) (by kernel_rfl) (fun _ _ _ h => h) (by rfl) hHeld ?hyq7 (some 74) (by rfl) ?restq7
             case hyq7 => (intro W hSw; (try dsimp only at hSw); go_simp; (try with_reducible rfl))
             try simp only [Act.put]
             try simp only [List.setIfInBounds_toArray]
             try simp only [List.set_cons_succ, List.set_cons_zero]
             refine anyK_step (i := 8) (by kernel_rfl) rfl (fun KP hK => ?_)
             go_simp
             refine (l3any HC.out.cur hn).mono ?_
             rintro e u4 ⟨K1, N1, F1, v1, D1, rfl, o1, q1, m1, n1, Q1, c1, g1⟩
             have I1 := (show Dit u4 K1 N1 F1 v1 D1 from ⟨Ry.own o1 q1, n1, Q1, by omega⟩)
             obtain ⟨a1, d1, rfl, -, -⟩ := I1.form
             replace I1 := hid I1
             replace HS0 := hid (show (fun W => W.cell? ⟨G, i * 5 + 4, none⟩ = some (.slice ay nr cy)) u4 from g1.cell HS0.out (by have := HC.out.lo; have := hGs; simp; omega))
             replace HM := hid ((HM.out.grown g1 (fun k hk => ⟨HC.out.ty k hk, .inl (by obtain rfl := Option.some.inj hk; exact HC.out.lo)⟩)).mono g1.size)
             replace HC := hid (HC.out.move c1 g1)
             clear o1 q1 m1 n1 Q1 c1 g1
             go_wp2_with fail
             clear hHeld
             refine hK.out _ _ HS0.out (fun hHeld => ?_)
             clear hK KP
             try simp only [Act.put]
             try simp only [List.setIfInBounds_toArray]
             try simp only [List.set_cons_succ, List.set_cons_zero]
             refine anyK_step (i := 9) (by kernel_rfl) rfl (fun KP hK => ?_)
             go_simp
             have gA := grown_alloc14 u4 (.cells #[.int .i64 K1, .int .i64 N1, .float .f64 F1, .slice a1 D1.length d1] 72)
             have HN := hid (heap_alloc_new u4 (.cells #[.int .i64 K1, .int .i64 N1, .float .f64 F1, .slice a1 D1.length d1] 72))
             replace HM := hid ((HM.out.fresh gA).mono gA.size)
             replace HC := hid (HC.out.new gA nok)
             replace I1 := hid (I1.out.grown gA nok)
             have HS2 := hid (show (fun W => W.cell? ⟨G, i * 5 + 4, none⟩ = some (.slice ay nr cy)) (u4.alloc (.cells #[.int .i64 K1, .int .i64 N1, .float .f64 F1, .slice a1 D1.length d1] 72)) from gA.cell HS0.out (by simp))
             clear gA hHeld HS0
             refine hK.out _ _ HS2.out (fun hHeld => ?_)
             clear hK KP
             try simp only [Act.put]
             try simp only [List.setIfInBounds_toArray]
             try simp only [List.set_cons_succ, List.set_cons_zero]
             obtain ⟨w2, hw2⟩ : ∃ w2, u4.alloc (.cells #[.int .i64 K1, .int .i64 N1, .float .f64 F1, .slice a1 D1.length d1] 72) = w2 := ⟨_, rfl⟩
             rw [hw2] at HS2 HM HC HN hHeld I1 ⊢
             clear hw2
             obtain ⟨xs, oR, HP⟩ := HM.out.write rfl hil
             rw [HY.out, HNr.out] at oR
             rw [HY.out, HNr.out] at HP
             have HRow := hid oR
             clear oR
             obtain ⟨i0, hi0, hz0, hz1, hz2⟩ := info_parts Tryz.infoIt14
             have hls := HC.out.size
             refine anyK_step (i := 10) (by kernel_rfl) rfl (fun KP hK => ?_)
             refine step_append14 rfl _ _ 66 rfl w.heap.size 72 i0 (.agg #[.int .i64 0, .int .i64 0, .float .f64 0, .slice none 0 0]) 4 48 Tryz.underlying66 hi0 hz0 hz1 hz2 rfl (by decide) _ nr _ rfl HRow.out ⟨u4.heap.size, 0, none⟩ 1 1 [.int .i64 K1, .int .i64 N1, .float .f64 F1, .slice a1 D1.length d1] rfl rfl (World.news_of_block HN.out) ?g2q (by unfold maxLen; omega) (by omega) (by omega) ?_
             case g2q => intro u hu; simp only [List.mem_cons, List.not_mem_nil, or_false] at hu; rcases hu with rfl | rfl | rfl | rfl <;> rfl
             intro a8 c8 w8 o8 g8 hat
             obtain ⟨kc, kf, ts', hl', d'⟩ := HP (s := ⟨K1, N1, F1, D1⟩) I1.out o8 g8
             have HF := hid (show AnsBt w g ad n cap zs (.returned (.slice (some ⟨G, 0, none⟩) ts.length c)) (w8.setCell ⟨G, i * 5 + 4, none⟩ (.slice a8 (nr + 1) c8)) from ⟨⟨_, ts', rfl, d', by omega⟩, (HC.out.new g8 (fun k hk => (HRow.out.lt k hk).1)).set hGs _ _⟩)
             have HS8 := hid (show (fun W => W.cell? ⟨G, i * 5 + 4, none⟩ = some (.slice ay nr cy)) w8 from kc)
             have HFr := hid kf
             clear hat o8 g8 hHeld HRow HP hls HN HS2 hi0 hz0 hz1 hz2 I1 kc kf d' HM HC HY HNr
             refine hK.out _ _ HS8.out (fun hHeld => ?_)
             clear hK KP
             try simp only [Act.put]
             try simp only [List.setIfInBounds_toArray]
             try simp only [List.set_cons_succ, List.set_cons_zero]
             refine anyK_step (i := 11) (by kernel_rfl) rfl (fun KP hK => ?_)
             go_simp
             clear hHeld
             refine hK.out _ _ HS8.out (fun hHeld => ?_)
             clear hK KP
             try simp only [Act.put]
             try simp only [List.setIfInBounds_toArray]
             try simp only [List.set_cons_succ, List.set_cons_zero]
             refine anyK_step (i := 12) (by kernel_rfl) rfl (fun KP hK => ?_)
             go_simp
             clear hHeld
             refine hK.out _ _ HS8.out (fun hHeld => ?_)
             clear hK KP
             try simp only [Act.put]
             try simp only [List.setIfInBounds_toArray]
             try simp only [List.set_cons_succ, List.set_cons_zero]
             have kc := HS8.out
             have kf := HFr.out
             dsimp only at kc
             refine anyK_last (by kernel_rfl) rfl (fun KP hK => ?_)
             go_simp
             refine hK.out _ _ ?_
             clear hK KP hHeld kc kf
             try simp only [Act.put]
             refine anyK_done (by kernel_rfl) ?_ _
             go_wp2_with fail
             go_ret
             exact HF.out
end Go.Proofs.YtjcjoabblafboaaGreat
