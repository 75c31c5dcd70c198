/- The draw of some deeds. For codes of at most 2^21 bytes, at most 100 deeds. -/
import Derived.Test.YtjcjoabblafboaaGreatMgq
import Derived.Test.YtjcjoabblafboaaGreatMgl
import Derived.Maps.AppendAt
namespace Go.Proofs.YtjcjoabblafboaaGreat
open Go.RowKit
set_option maxRecDepth 100000
section
variable {P : Program} {w : World}
theorem step_append14 {ops : Array Oper} {o : Oper} {a : Act} {K : Act → World → Prop} {Q : Exit → Act → World → Prop} {E : Prop} (hgd : o.guard = none) (s x : Operand) (t : TypeId)
 (ho : o.op = .call { callee := .builtin .append, args := #[s, x], argTypes := #[t, t] })
 (base : Nat) (e : TypeId) (i : TypeInfo) (z : Value) (size bytes : Nat) (ht : P.underlying t = some (.slice e)) (hi : P.info? e = some i) (hz : i.zero = some z)
 (hsize : i.size = size) (hby : i.bytes = bytes) (hzs : z.cells.size = size) (hsz : 0 < size)
 (v : Value) (n : Nat) (xs : List Value) (hs : a.eval s = v) (hown : w.ownsRow base e size v n xs)
 (ad : Addr) (m c : Nat) (news : List Value) (hx : a.eval x = .slice (some ad) m c) (hl : news.length = m * size) (hnews : ∀ j u, news[j]? = some u → w.cell? (ad.add j) = some u) (h1 : ∀ u ∈ news, u.oneCell' = true)
 (h63 : n + m ≤ maxLen) (hbytes : (n + m) * bytes ≤ 140737488355328) (hbase : base ≤ w.heap.size)
 (h : ∀ a' cap w', w'.ownsRow base e size (.slice a' (n + m) cap) (n + m) (xs ++ news) → w.grownBy w' v.ownBlock → ((Value.slice a' (n + m) cap).ownBlock = v.ownBlock ∨ (Value.slice a' (n + m) cap).ownBlock = some w.heap.size) → K (a.put o.dst (.slice a' (n + m) cap)) w') :
 if Region.wanted o (yielded ops a.tmps) = true then Oper.wp P o a w K Q else E := by
 have hw : Region.wanted o (yielded ops a.tmps) = true := by simp [Region.wanted, hgd]
 rw [if_pos hw]
 obtain ⟨v', w', hr, h2, h3, _, h5⟩ := run_append_own_at (P := P) w base t o.type e i z size bytes ht hi hz hsize hby hzs hsz v n xs hown ad m c news hl hnews h1 h63 hbytes hbase
 obtain ⟨a', c', rfl⟩ := own_sl h2
 unfold Oper.wp execOp
 simp only [ho, resolve, invoke, builtin, Sem.run_bind, Sem.run_pure, Result.andThen_ok, List.map_toArray, List.map_cons, List.map_nil, hs, hx, hr]
 exact h a' c' w' h2 h3 h5
end
theorem Tryz.infoIt14 : (Tryz.prog.info? 72).map (fun i => (i.zero, i.size, i.bytes)) = some (some (.agg #[.int .i64 0, .int .i64 0, .float .f64 0, .slice none 0 0]), 4, 48) := by kernel_rfl
theorem size_dd14 : (Tryz.prog.info? 68).map (·.size) = some 5 := by kernel_rfl
theorem frozen14 {w : World} {g : Nat} {cs : Array Value} {t : TypeId} (h : w.heap[g]? = some (.cells cs t (0, 0))) (i : Nat) : w.frozen? ⟨g, i, none⟩ = false := by
 simp [World.frozen?, h]
theorem Dst.start {w u : World} {g : Nat} {ad : Option Addr} {n cap : Nat} {zs : List Int} {v : Value} {ts : List Tk} (c : Cg w g ad n cap zs u) (d : DdA u w.heap.size u.heap.size v ts) (x b : Int) : Dst w g ad n cap zs u.heap.size x b 0 (.slice none 0 0) (.slice none 0 0) [] [] v ts (u.alloc (.cells #[.int .i64 x, .int .i64 b, .int .i64 0, .slice none 0 0, .slice none 0 0] 68)) := by
 have hg := grown_alloc14 u (.cells #[.int .i64 x, .int .i64 b, .int .i64 0, .slice none 0 0, .slice none 0 0] 68)
 exact ⟨c.new hg nok, heap_alloc_new u _, ⟨Rwm.nil _ _ _ _ _, Rwm.nil _ _ _ _ _, Nat.zero_le _, Nat.zero_le _⟩, d.fresh hg, c.size⟩
structure AnsDd (w : World) (g : Nat) (ad : Option Addr) (n cap : Nat) (zs : List Int) (e : Ending) (w' : World) : Prop where
 ex : ∃ v ts, e = .returned v ∧ DdA w' w.heap.size w'.heap.size v ts ∧ ts.length ≤ 100
 cg : Cg w g ad n cap zs w'
set_option maxHeartbeats 12800000 in
theorem l14deeds {w : World} {g : Nat} {ad : Option Addr} {n cap : Nat} {zs : List Int} (c : Cur w g ad n cap zs) (hn : n ≤ 2097152) (most : Int) (m0 : 0 ≤ most) (m1 : most ≤ 100) :
 Calls Tryz.prog 35 #[.pointer (some ⟨g, 0, none⟩), .int .i64 most] w (AnsDd w g ad n cap zs) := by
 have HC := hid (show Cg w g ad n cap zs w from ⟨c, grown_refl _ _, c.lt⟩)
 clear c
 go_enter Tryz.func35, Tryz.ntmps35
 go_wp2_with fail
 refine (l1Below HC.out.cur hn (most + 1) (by omega) (by omega)).mono ?_
 rintro e w1 ⟨nn, rfl, hn0, hn1, c1, g1⟩
 replace HC := hid (HC.out.move c1 g1)
 clear c1 g1
 obtain ⟨nn, rfl⟩ := Int.eq_ofNat_of_zero_le hn0
 go_wp2_with fail
 refine (l1Once HC.out.cur hn 3 (by omega) (by omega)).mono ?_
 rintro e w2 ⟨calm, rfl, c1, g1⟩
 replace HC := hid (HC.out.move c1 g1)
 clear c1 g1
 go_wp2_with fail
 go_loopw [5, 7, 9] (fun v nw i wr => ∃ (k : Nat) (b : Int) (ts : List Tk), k ≤ nn ∧ i = .int .i64 k ∧ nw = .int .i64 b ∧ 1 ≤ b ∧ b ≤ 1 + 3 * k ∧ ts.length = k ∧ Hid (Cg w g ad n cap zs wr ∧ DdA wr w.heap.size wr.heap.size v ts)) (fun _ _ i _ => nn - (intOf i).toNat)
 case atStart => exact ⟨0, 1, [], Nat.zero_le _, rfl, rfl, by omega, by omega, rfl, hid ⟨HC.out, DdA.nil _ _ _⟩⟩
 case round =>
  obtain ⟨k, b0, ts, hk, rfl, rfl, hb0, hb1, hts, hD⟩ := hrel
  subst hts
  obtain ⟨av, cv, rfl, -⟩ := hD.out.2.form
  by_cases hlt : ts.length < nn
  · have hlt' : (ts.length : Int) < (nn : Int) := by omega
    have HD := hid (Dst.start hD.out.1 hD.out.2 ((ts.length : Int) + 1) b0)
    clear HC
    go_wp2_with fail
    generalize wr.alloc (.cells #[.int .i64 ((ts.length : Int) + 1), .int .i64 b0, .int .i64 0, .slice none 0 0, .slice none 0 0] 68) = W0 at *
    generalize wr.heap.size = lo at *
    obtain ⟨x, hx⟩ : ∃ x, (ts.length : Int) + 1 = x := ⟨_, rfl⟩
    rw [hx] at HD
    clear hD
    refine (l1Below HD.out.cg.cur hn 2 (by omega) (by omega)).mono ?_
    rintro e y1 ⟨j1, rfl, j10, j11, c1, g1⟩
    replace HD := hid (HD.out.cursor c1 g1)
    clear c1 g1
    go_wp2_with fail
    refine (l1Below HD.out.cg.cur hn 3 (by omega) (by omega)).mono ?_
    rintro e y2 ⟨j2, rfl, j20, j21, c1, g1⟩
    replace HD := hid (HD.out.cursor c1 g1)
    clear c1 g1
    obtain ⟨j2, rfl⟩ := Int.eq_ofNat_of_zero_le j20
    go_wp2_with fail
    go_loopw [11] (fun r W0 => ∃ (kk : Nat) (y : Value) (rs : List (Im × Im)), r = .int .i64 kk ∧ rs.length + kk ≤ 2 ∧ Hid (Dst w g ad n cap zs lo x b0 0 y (.slice none 0 0) rs [] (.slice av ts.length cv) ts W0)) (fun r _ => (intOf r).toNat)
    case atStart => exact ⟨j2, _, _, rfl, by simp; omega, HD⟩
    case round =>
     clear HD
     obtain ⟨kk, y, rs, rfl, hkk, HD⟩ := hrel
     obtain ⟨ay, cy, hy, -⟩ := HD.out.row.rd.form
     dsimp only at hy
     subst hy
     cases kk with
     | succ kk =>
      have h0 : (0 : Int) < ((kk + 1 : Nat) : Int) := by omega
      replace HD := hid (HD.out.fresh (u' := wr.drew) ⟨rfl, rfl, rfl, Nat.le_refl _, fun _ _ _ => rfl⟩)
      have HS0 := hid (show (fun W => W.cell? ⟨lo, 3, none⟩ = some (.slice ay rs.length cy)) wr.drew by dsimp only; rw [cell_of_row _ _ _ _ _ _ HD.out.box]; rfl)
      go_wp2
      refine region_K 7 (fun W => W.cell? ⟨lo, 3, none⟩ = some (.slice ay rs.length cy)) (by kernel_rfl) ?_ (fun hHeld => ?_)
      · exact HS0.out
      generalize wr.drew = v0 at *
      refine anyK_take (i := 0) (v := ?va0) rfl (by kernel_rfl) (by kernel_rfl) (by kernel_rfl) (by kernel_rfl) (fun _ _ _ h => h) (by rfl) hHeld ?hya0 (some 39) (by rfl) ?resta0
      case hya0 => (intro W hSw; (try dsimp only at hSw); go_simp; (try with_reducible rfl))
      try simp only [Act.put]
      try simp only [List.setIfInBounds_toArray]
      try simp only [List.set_cons_succ, List.set_cons_zero]
      refine anyK_take (i := 1) (v := ?va1) rfl (by kernel_rfl) (by kernel_rfl) (by kernel_rfl) (by kernel_rfl) (fun _ _ _ h => h) (by rfl) hHeld ?hya1 (some 40) (by rfl) ?resta1
      case hya1 => (intro W hSw; (try dsimp only at hSw); go_simp; (try with_reducible rfl))
      try simp only [Act.put]
      try simp only [List.setIfInBounds_toArray]
      try simp only [List.set_cons_succ, List.set_cons_zero]
      refine anyK_take (i := 2) (v := ?va2) rfl (by kernel_rfl) (by kernel_rfl) (by kernel_rfl) (by kernel_rfl) (fun _ _ _ h => h) (by rfl) hHeld ?hya2 (some 41) (by rfl) ?resta2
      case hya2 => (intro W hSw; (try dsimp only at hSw); go_simp; (try with_reducible rfl))
      try simp only [Act.put]
      try simp only [List.setIfInBounds_toArray]
      try simp only [List.set_cons_succ, List.set_cons_zero]
      refine anyK_step (i := 3) (by kernel_rfl) rfl (fun KP hK => ?_)
      go_simp
      refine (l13span HD.out.cg.cur hn).mono ?_
      rintro e w1 ⟨⟨K1, N1, F1, a1, d1, D1, K2, N2, F2, a2, d2, D2, rfl, I1, I2⟩, cg⟩
      replace HD := hid (HD.out.cursor cg.cur cg.gr)
      replace I2 := hid I2
      replace I1 := hid I1
      clear cg
      have HS1 := hid (show (fun W => W.cell? ⟨lo, 3, none⟩ = some (.slice ay rs.length cy)) w1 by dsimp only; rw [cell_of_row _ _ _ _ _ _ HD.out.box]; rfl)
      go_wp2_with fail
      clear hHeld HS0
      refine hK.out _ _ HS1.out (fun hHeld => ?_)
      clear hK KP
      try simp only [Act.put]
      try simp only [List.setIfInBounds_toArray]
      try simp only [List.set_cons_succ, List.set_cons_zero]
      refine anyK_step (i := 4) (by kernel_rfl) rfl (fun KP hK => ?_)
      go_simp
      have gA := grown_alloc14 w1 (.cells #[.int .i64 K1, .int .i64 N1, .float .f64 F1, .slice a1 D1.length d1, .int .i64 K2, .int .i64 N2, .float .f64 F2, .slice a2 D2.length d2] 74)
      have HN := hid (heap_alloc_new w1 (.cells #[.int .i64 K1, .int .i64 N1, .float .f64 F1, .slice a1 D1.length d1, .int .i64 K2, .int .i64 N2, .float .f64 F2, .slice a2 D2.length d2] 74))
      replace HD := hid (HD.out.fresh gA)
      replace I1 := hid (I1.out.grown gA nok)
      replace I2 := hid (I2.out.grown gA nok)
      have HS2 := hid (show (fun W => W.cell? ⟨lo, 3, none⟩ = some (.slice ay rs.length cy)) (w1.alloc (.cells #[.int .i64 K1, .int .i64 N1, .float .f64 F1, .slice a1 D1.length d1, .int .i64 K2, .int .i64 N2, .float .f64 F2, .slice a2 D2.length d2] 74)) by dsimp only; rw [cell_of_row _ _ _ _ _ _ HD.out.box]; rfl)
      clear gA hHeld HS1
      refine hK.out _ _ HS2.out (fun hHeld => ?_)
      clear hK KP
      try simp only [Act.put]
      try simp only [List.setIfInBounds_toArray]
      try simp only [List.set_cons_succ, List.set_cons_zero]
      obtain ⟨w2, hw2⟩ : ∃ w2, w1.alloc (.cells #[.int .i64 K1, .int .i64 N1, .float .f64 F1, .slice a1 D1.length d1, .int .i64 K2, .int .i64 N2, .float .f64 F2, .slice a2 D2.length d2] 74) = w2 := ⟨_, rfl⟩
      rw [hw2] at HS2 HD HN hHeld I1 ⊢
      rw [hw2] at I2
      clear hw2
      obtain ⟨xs, oR, HP⟩ := HD.out.read (by omega)
      have HRow := hid oR
      clear oR
      obtain ⟨i0, hi0, hz0, hz1, hz2⟩ := info_parts Tryz.infoSp
      have hls := HD.out.hs
      refine anyK_step (i := 5) (by kernel_rfl) rfl (fun KP hK => ?_)
      refine step_append14 rfl _ _ 65 rfl lo 74 i0 (.agg #[.int .i64 0, .int .i64 0, .float .f64 0, .slice none 0 0, .int .i64 0, .int .i64 0, .float .f64 0, .slice none 0 0]) 8 96 Tryz.underlying65 hi0 hz0 hz1 hz2 rfl (by decide) _ rs.length _ rfl HRow.out ⟨w1.heap.size, 0, none⟩ 1 1 [.int .i64 K1, .int .i64 N1, .float .f64 F1, .slice a1 D1.length d1, .int .i64 K2, .int .i64 N2, .float .f64 F2, .slice a2 D2.length d2] rfl rfl (World.news_of_block HN.out) ?g2a (by unfold maxLen; omega) (by omega) (by omega) ?_
      case g2a => intro u hu; simp only [List.mem_cons, List.not_mem_nil, or_false] at hu; rcases hu with rfl | rfl | rfl | rfl | rfl | rfl | rfl | rfl <;> rfl
      intro a8 c8 w8 o8 g8 hat
      have HF := hid (HP (s1 := ⟨K1, N1, F1, D1⟩) (s2 := ⟨K2, N2, F2, D2⟩) I1.out I2.out o8 g8)
      have hb8 := hid ((g8.block lo hls (HD.out.row.rd.not HD.out.box (by decide) ∘ Eq.symm)).trans HD.out.box)
      have HS8 := hid (show (fun W => W.cell? ⟨lo, 3, none⟩ = some (.slice ay rs.length cy)) w8 by dsimp only; rw [cell_of_row _ _ _ _ _ _ hb8.out]; rfl)
      have HFr := hid (show w8.frozen? ⟨lo, 3, none⟩ = false from frozen14 hb8.out _)
      replace HF := hid (show Dst w g ad n cap zs lo x b0 0 (.slice a8 (rs.length + 1) c8) (.slice none 0 0) (rs ++ [(⟨K1, N1, F1, D1⟩, ⟨K2, N2, F2, D2⟩)]) [] (.slice av ts.length cv) ts (w8.setCell ⟨lo, 3, none⟩ (.slice a8 (rs.length + 1) c8)) by rw [setCell_eq_setRow w8 lo 3 _ _ _ _ hb8.out]; exact HF.out)
      clear hat o8 g8 hHeld HRow HP hls HN HS2 hb8 hi0 hz0 hz1 hz2 I1 I2
      refine hK.out _ _ HS8.out (fun hHeld => ?_)
      clear hK KP
      try simp only [Act.put]
      try simp only [List.setIfInBounds_toArray]
      try simp only [List.set_cons_succ, List.set_cons_zero]
      refine anyK_step (i := 6) (by kernel_rfl) rfl (fun KP hK => ?_)
      go_simp
      clear hHeld
      refine hK.out _ _ HS8.out (fun hHeld => ?_)
      clear hK KP
      try simp only [Act.put]
      try simp only [List.setIfInBounds_toArray]
      try simp only [List.set_cons_succ, List.set_cons_zero]
      have kc := HS8.out
      have kf := HFr.out
      dsimp only at kc
      refine anyK_last (by kernel_rfl) rfl (fun KP hK => ?_)
      go_simp
      refine hK.out _ _ ?_
      clear hK KP hHeld kc kf
      try simp only [Act.put]
      refine anyK_done (by kernel_rfl) ?_ _
      clear HFr HS8 HD
      generalize w8.setCell ⟨lo, 3, none⟩ (.slice a8 (rs.length + 1) c8) = w9 at *
      go_wp2_with fail
      go_roundw
      case rel => exact ⟨kk, _, _, by go_num, by rw [List.length_append, List.length_singleton]; omega, HF⟩
      case measure => simp [intOf]
     | zero =>
      go_wp2_with fail
      refine (l1Below HD.out.cg.cur hn 3 (by omega) (by omega)).mono ?_
      rintro e y3 ⟨j3, rfl, j30, j31, c1, g1⟩
      replace HD := hid (HD.out.cursor c1 g1)
      clear c1 g1
      obtain ⟨j3, rfl⟩ := Int.eq_ofNat_of_zero_le j30
      go_wp2_with fail
      go_loopw [12] (fun r W0 => ∃ (kk : Nat) (z : Value) (ws : List Im), r = .int .i64 kk ∧ ws.length + kk ≤ 2 ∧ Hid (Dst w g ad n cap zs lo x b0 0 (.slice ay rs.length cy) z rs ws (.slice av ts.length cv) ts W0)) (fun r _ => (intOf r).toNat)
      case atStart => exact ⟨j3, _, _, rfl, by simp; omega, HD⟩
      case round =>
       clear HD
       obtain ⟨kk, z, ws, rfl, hkw, HD⟩ := hrel
       obtain ⟨az, cz, hz, -⟩ := HD.out.row.wr.form
       dsimp only at hz
       subst hz
       cases kk with
       | succ kk =>
        have h0 : (0 : Int) < ((kk + 1 : Nat) : Int) := by omega
        replace HD := hid (HD.out.fresh (u' := wr.drew) ⟨rfl, rfl, rfl, Nat.le_refl _, fun _ _ _ => rfl⟩)
        have HS0 := hid (show (fun W => W.cell? ⟨lo, 4, none⟩ = some (.slice az ws.length cz)) wr.drew by dsimp only; rw [cell_of_row _ _ _ _ _ _ HD.out.box]; rfl)
        go_wp2
        refine region_K 7 (fun W => W.cell? ⟨lo, 4, none⟩ = some (.slice az ws.length cz)) (by kernel_rfl) ?_ (fun hHeld => ?_)
        · exact HS0.out
        generalize wr.drew = v0 at *
        refine anyK_take (i := 0) (v := ?vb0) rfl (by kernel_rfl) (by kernel_rfl) (by kernel_rfl) (by kernel_rfl) (fun _ _ _ h => h) (by rfl) hHeld ?hyb0 (some 52) (by rfl) ?restb0
        case hyb0 => (intro W hSw; (try dsimp only at hSw); go_simp; (try with_reducible rfl))
        try simp only [Act.put]
        try simp only [List.setIfInBounds_toArray]
        try simp only [List.set_cons_succ, List.set_cons_zero]
        refine anyK_take (i := 1) (v := ?vb1) rfl (by kernel_rfl) (by kernel_rfl) (by kernel_rfl) (by kernel_rfl) (fun _ _ _ h => h) (by rfl) hHeld ?hyb1 (some 53) (by rfl) ?restb1
        case hyb1 => (intro W hSw; (try dsimp only at hSw); go_simp; (try with_reducible rfl))
        try simp only [Act.put]
        try simp only [List.setIfInBounds_toArray]
        try simp only [List.set_cons_succ, List.set_cons_zero]
        refine anyK_take (i := 2) (v := ?vb2) rfl (by kernel_rfl) (by kernel_rfl) (by kernel_rfl) (by kernel_rfl) (fun _ _ _ h => h) (by rfl) hHeld ?hyb2 (some 54) (by rfl) ?restb2
        case hyb2 => (intro W hSw; (try dsimp only at hSw); go_simp; (try with_reducible rfl))
        try simp only [Act.put]
        try simp only [List.setIfInBounds_toArray]
        try simp only [List.set_cons_succ, List.set_cons_zero]
        refine anyK_step (i := 3) (by kernel_rfl) rfl (fun KP hK => ?_)
        go_simp
        refine (l3key HD.out.cg.cur hn).mono ?_
        rintro e w1 ⟨K1, N1, F1, v1, D1, rfl, o1, q1, m1, n1, Q1, c1, g1⟩
        have I1 := (show Dit w1 K1 N1 F1 v1 D1 from ⟨Ry.own o1 q1, n1, Q1, by omega⟩)
        obtain ⟨a1, d1, rfl, -, -⟩ := I1.form
        replace HD := hid (HD.out.cursor c1 g1)
        clear o1 q1 m1 n1 Q1 c1 g1
        replace I1 := hid I1
        have HS1 := hid (show (fun W => W.cell? ⟨lo, 4, none⟩ = some (.slice az ws.length cz)) w1 by dsimp only; rw [cell_of_row _ _ _ _ _ _ HD.out.box]; rfl)
        go_wp2_with fail
        clear hHeld HS0
        refine hK.out _ _ HS1.out (fun hHeld => ?_)
        clear hK KP
        try simp only [Act.put]
        try simp only [List.setIfInBounds_toArray]
        try simp only [List.set_cons_succ, List.set_cons_zero]
        refine anyK_step (i := 4) (by kernel_rfl) rfl (fun KP hK => ?_)
        go_simp
        have gA := grown_alloc14 w1 (.cells #[.int .i64 K1, .int .i64 N1, .float .f64 F1, .slice a1 D1.length d1] 72)
        have HN := hid (heap_alloc_new w1 (.cells #[.int .i64 K1, .int .i64 N1, .float .f64 F1, .slice a1 D1.length d1] 72))
        replace HD := hid (HD.out.fresh gA)
        replace I1 := hid (I1.out.grown gA nok)
        have HS2 := hid (show (fun W => W.cell? ⟨lo, 4, none⟩ = some (.slice az ws.length cz)) (w1.alloc (.cells #[.int .i64 K1, .int .i64 N1, .float .f64 F1, .slice a1 D1.length d1] 72)) by dsimp only; rw [cell_of_row _ _ _ _ _ _ HD.out.box]; rfl)
        clear gA hHeld HS1
        refine hK.out _ _ HS2.out (fun hHeld => ?_)
        clear hK KP
        try simp only [Act.put]
        try simp only [List.setIfInBounds_toArray]
        try simp only [List.set_cons_succ, List.set_cons_zero]
        obtain ⟨w2, hw2⟩ : ∃ w2, w1.alloc (.cells #[.int .i64 K1, .int .i64 N1, .float .f64 F1, .slice a1 D1.length d1] 72) = w2 := ⟨_, rfl⟩
        rw [hw2] at HS2 HD HN hHeld I1 ⊢
        clear hw2
        obtain ⟨xs, oR, HP⟩ := HD.out.write (by omega)
        have HRow := hid oR
        clear oR
        obtain ⟨i0, hi0, hz0, hz1, hz2⟩ := info_parts Tryz.infoIt14
        have hls := HD.out.hs
        refine anyK_step (i := 5) (by kernel_rfl) rfl (fun KP hK => ?_)
        refine step_append14 rfl _ _ 66 rfl lo 72 i0 (.agg #[.int .i64 0, .int .i64 0, .float .f64 0, .slice none 0 0]) 4 48 Tryz.underlying66 hi0 hz0 hz1 hz2 rfl (by decide) _ ws.length _ rfl HRow.out ⟨w1.heap.size, 0, none⟩ 1 1 [.int .i64 K1, .int .i64 N1, .float .f64 F1, .slice a1 D1.length d1] rfl rfl (World.news_of_block HN.out) ?g2b (by unfold maxLen; omega) (by omega) (by omega) ?_
        case g2b => intro u hu; simp only [List.mem_cons, List.not_mem_nil, or_false] at hu; rcases hu with rfl | rfl | rfl | rfl <;> rfl
        intro a8 c8 w8 o8 g8 hat
        have HF := hid (HP (s := ⟨K1, N1, F1, D1⟩) I1.out o8 g8)
        have hb8 := hid ((g8.block lo hls (HD.out.row.wr.not HD.out.box (by decide) ∘ Eq.symm)).trans HD.out.box)
        have HS8 := hid (show (fun W => W.cell? ⟨lo, 4, none⟩ = some (.slice az ws.length cz)) w8 by dsimp only; rw [cell_of_row _ _ _ _ _ _ hb8.out]; rfl)
        have HFr := hid (show w8.frozen? ⟨lo, 4, none⟩ = false from frozen14 hb8.out _)
        replace HF := hid (show Dst w g ad n cap zs lo x b0 0 (.slice ay rs.length cy) (.slice a8 (ws.length + 1) c8) rs (ws ++ [⟨K1, N1, F1, D1⟩]) (.slice av ts.length cv) ts (w8.setCell ⟨lo, 4, none⟩ (.slice a8 (ws.length + 1) c8)) by rw [setCell_eq_setRow w8 lo 4 _ _ _ _ hb8.out]; exact HF.out)
        clear hat o8 g8 hHeld HRow HP hls HN HS2 hb8 hi0 hz0 hz1 hz2 I1
        refine hK.out _ _ HS8.out (fun hHeld => ?_)
        clear hK KP
        try simp only [Act.put]
        try simp only [List.setIfInBounds_toArray]
        try simp only [List.set_cons_succ, List.set_cons_zero]
        refine anyK_step (i := 6) (by kernel_rfl) rfl (fun KP hK => ?_)
        go_simp
        clear hHeld
        refine hK.out _ _ HS8.out (fun hHeld => ?_)
        clear hK KP
        try simp only [Act.put]
        try simp only [List.setIfInBounds_toArray]
        try simp only [List.set_cons_succ, List.set_cons_zero]
        have kc := HS8.out
        have kf := HFr.out
        dsimp only at kc
        refine anyK_last (by kernel_rfl) rfl (fun KP hK => ?_)
        go_simp
        refine hK.out _ _ ?_
        clear hK KP hHeld kc kf
        try simp only [Act.put]
        refine anyK_done (by kernel_rfl) ?_ _
        clear HFr HS8 HD
        generalize w8.setCell ⟨lo, 4, none⟩ (.slice a8 (ws.length + 1) c8) = w9 at *
        go_wp2_with fail
        go_roundw
        case rel => exact ⟨kk, _, _, by go_num, by rw [List.length_append, List.length_singleton]; omega, HF⟩
        case measure => simp [intOf]
       | zero =>
        have kc : wr.cell? ⟨lo, 2, none⟩ = some (.int .i64 0) := by rw [cell_of_row _ _ _ _ _ _ HD.out.box]; rfl
        have kf : wr.frozen? ⟨lo, 2, none⟩ = false := frozen14 HD.out.box _
        replace HD := hid (show Dst w g ad n cap zs lo x b0 (b0 + 1 + j1) (.slice ay rs.length cy) (.slice az ws.length cz) rs ws (.slice av ts.length cv) ts (wr.setCell ⟨lo, 2, none⟩ (.int .i64 (b0 + 1 + j1))) by rw [setCell_eq_setRow wr lo 2 _ _ _ _ HD.out.box]; exact HD.out.ends _)
        cases calm with
        | true =>
         have hbd : bdT1 ⟨x, b0, (b0 + 1 + j1), false, rs, ws, false, false⟩ := ⟨⟨by dsimp only; omega, by dsimp only; omega⟩, ⟨by dsimp only; omega, by dsimp only; omega⟩, ⟨by dsimp only; omega, by dsimp only; omega⟩⟩
         have HB := hid HD.out.box
         have HA := hid (HD.out.fresh (grown_alloc14 (wr.setCell ⟨lo, 2, none⟩ (.int .i64 (b0 + 1 + j1))) (.cells #[.int .i64 x, .int .i64 b0, .int .i64 (b0 + 1 + j1), .slice ay rs.length cy, .slice az ws.length cz] 68)))
         obtain ⟨ms, oR, HP⟩ := HA.out.push hbd
         have HRow := hid oR
         have hsz := HA.out.cg.size
         clear oR
         obtain ⟨i0, hi0, hz0, hz1, hz2⟩ := info_parts Tryz.infoDd
         have HN := hid (show ((wr.setCell ⟨lo, 2, none⟩ (.int .i64 (b0 + 1 + j1))).alloc (.cells #[.int .i64 x, .int .i64 b0, .int .i64 (b0 + 1 + j1), .slice ay rs.length cy, .slice az ws.length cz] 68)).heap[wr.heap.size]? = some (.cells #[.int .i64 x, .int .i64 b0, .int .i64 (b0 + 1 + j1), .slice ay rs.length cy, .slice az ws.length cz] 68) by have h := heap_alloc_new (wr.setCell ⟨lo, 2, none⟩ (.int .i64 (b0 + 1 + j1))) (.cells #[.int .i64 x, .int .i64 b0, .int .i64 (b0 + 1 + j1), .slice ay rs.length cy, .slice az ws.length cz] 68); rw [set_size] at h; exact h)
         go_wp2_with (first
          | (refine wpList_load_row rfl 68 (.tmp 10) rfl lo rfl 68 _ (0, 0) _ HB.out Tryz.underlying68 rfl size_dd14 ?_)
          | (at_builtin; refine wpList_append_lies _ rfl _ _ 24 rfl w.heap.size 68 i0 (.agg #[.int .i64 0, .int .i64 0, .int .i64 0, .slice none 0 0, .slice none 0 0]) 5 72 Tryz.underlying24 hi0 hz0 hz1 hz2 rfl (by omega) (.slice av ts.length cv) ts.length (cellsV ts ms) rfl HRow.out ⟨wr.heap.size, 0, none⟩ 1 1 [.int .i64 x, .int .i64 b0, .int .i64 (b0 + 1 + j1), .slice ay rs.length cy, .slice az ws.length cz] rfl rfl (World.news_of_block HN.out) (by simp [Value.oneCell']) (by omega) (by unfold maxLen; omega) (by omega) hsz _ rfl ?_))
         intro gg cc w9 o9 g9 _ _
         have H9 := hid (HP o9 g9)
         clear o9 g9 HP HRow HA HB HD HN
         go_wp2_with fail
         go_roundw
         case rel => exact ⟨ts.length + 1, b0 + 1 + j1 + 1, _, by omega, by go_num, rfl, by omega, by omega, by rw [List.length_append, List.length_singleton], H9⟩
         case measure => simp [intOf]; omega
        | false =>
         go_wp2_with fail
         clear kc kf
         generalize wr.setCell ⟨lo, 2, none⟩ (.int .i64 (b0 + 1 + j1)) = W5 at *
         refine (l1Once HD.out.cg.cur hn 3 (by omega) (by omega)).mono ?_
         rintro e W6 ⟨b6, rfl, c1, g1⟩
         replace HD := hid (HD.out.cursor c1 g1)
         clear c1 g1
         cases b6 with
         | true =>
          have hbd : bdT1 ⟨x, b0, (b0 + 1 + j1), false, rs, ws, false, false⟩ := ⟨⟨by dsimp only; omega, by dsimp only; omega⟩, ⟨by dsimp only; omega, by dsimp only; omega⟩, ⟨by dsimp only; omega, by dsimp only; omega⟩⟩
          have HB := hid HD.out.box
          have HA := hid (HD.out.fresh (grown_alloc14 W6 (.cells #[.int .i64 x, .int .i64 b0, .int .i64 (b0 + 1 + j1), .slice ay rs.length cy, .slice az ws.length cz] 68)))
          obtain ⟨ms, oR, HP⟩ := HA.out.push hbd
          have HRow := hid oR
          have hsz := HA.out.cg.size
          clear oR
          obtain ⟨i0, hi0, hz0, hz1, hz2⟩ := info_parts Tryz.infoDd
          have HN := hid (heap_alloc_new W6 (.cells #[.int .i64 x, .int .i64 b0, .int .i64 (b0 + 1 + j1), .slice ay rs.length cy, .slice az ws.length cz] 68))
          go_wp2_with (first
           | (refine wpList_load_row rfl 68 (.tmp 10) rfl lo rfl 68 _ (0, 0) _ HB.out Tryz.underlying68 rfl size_dd14 ?_)
           | (at_builtin; refine wpList_append_lies _ rfl _ _ 24 rfl w.heap.size 68 i0 (.agg #[.int .i64 0, .int .i64 0, .int .i64 0, .slice none 0 0, .slice none 0 0]) 5 72 Tryz.underlying24 hi0 hz0 hz1 hz2 rfl (by omega) (.slice av ts.length cv) ts.length (cellsV ts ms) rfl HRow.out ⟨W6.heap.size, 0, none⟩ 1 1 [.int .i64 x, .int .i64 b0, .int .i64 (b0 + 1 + j1), .slice ay rs.length cy, .slice az ws.length cz] rfl rfl (World.news_of_block HN.out) (by simp [Value.oneCell']) (by omega) (by unfold maxLen; omega) (by omega) hsz _ rfl ?_))
          intro gg cc w9 o9 g9 _ _
          have H9 := hid (HP o9 g9)
          clear o9 g9 HP HRow HA HB HD HN
          go_wp2_with fail
          go_roundw
          case rel => exact ⟨ts.length + 1, b0 + 1 + j1 + 1, _, by omega, by go_num, rfl, by omega, by omega, by rw [List.length_append, List.length_singleton], H9⟩
          case measure => simp [intOf]; omega
         | false =>
          go_wp2_with fail
          refine (l1Below HD.out.cg.cur hn 200 (by omega) (by omega)).mono ?_
          rintro e W7 ⟨j4, rfl, j40, j41, c1, g1⟩
          replace HD := hid (HD.out.cursor c1 g1)
          clear c1 g1
          have kc : W7.cell? ⟨lo, 2, none⟩ = some (.int .i64 (b0 + 1 + j1)) := by rw [cell_of_row _ _ _ _ _ _ HD.out.box]; rfl
          have kf : W7.frozen? ⟨lo, 2, none⟩ = false := frozen14 HD.out.box _
          replace HD := hid (show Dst w g ad n cap zs lo x b0 (1000 + 37 * j4 + (ts.length : Int)) (.slice ay rs.length cy) (.slice az ws.length cz) rs ws (.slice av ts.length cv) ts (W7.setCell ⟨lo, 2, none⟩ (.int .i64 (1000 + 37 * j4 + (ts.length : Int)))) by rw [setCell_eq_setRow W7 lo 2 _ _ _ _ HD.out.box]; exact HD.out.ends _)
          have hbd : bdT1 ⟨x, b0, (1000 + 37 * j4 + (ts.length : Int)), false, rs, ws, false, false⟩ := ⟨⟨by dsimp only; omega, by dsimp only; omega⟩, ⟨by dsimp only; omega, by dsimp only; omega⟩, ⟨by dsimp only; omega, by dsimp only; omega⟩⟩
          have HB := hid HD.out.box
          have HA := hid (HD.out.fresh (grown_alloc14 (W7.setCell ⟨lo, 2, none⟩ (.int .i64 (1000 + 37 * j4 + (ts.length : Int)))) (.cells #[.int .i64 x, .int .i64 b0, .int .i64 (1000 + 37 * j4 + (ts.length : Int)), .slice ay rs.length cy, .slice az ws.length cz] 68)))
          obtain ⟨ms, oR, HP⟩ := HA.out.push hbd
          have HRow := hid oR
          have hsz := HA.out.cg.size
          clear oR
          obtain ⟨i0, hi0, hz0, hz1, hz2⟩ := info_parts Tryz.infoDd
          have HN := hid (show ((W7.setCell ⟨lo, 2, none⟩ (.int .i64 (1000 + 37 * j4 + (ts.length : Int)))).alloc (.cells #[.int .i64 x, .int .i64 b0, .int .i64 (1000 + 37 * j4 + (ts.length : Int)), .slice ay rs.length cy, .slice az ws.length cz] 68)).heap[W7.heap.size]? = some (.cells #[.int .i64 x, .int .i64 b0, .int .i64 (1000 + 37 * j4 + (ts.length : Int)), .slice ay rs.length cy, .slice az ws.length cz] 68) by have h := heap_alloc_new (W7.setCell ⟨lo, 2, none⟩ (.int .i64 (1000 + 37 * j4 + (ts.length : Int)))) (.cells #[.int .i64 x, .int .i64 b0, .int .i64 (1000 + 37 * j4 + (ts.length : Int)), .slice ay rs.length cy, .slice az ws.length cz] 68); rw [set_size] at h; exact h)
          go_wp2_with (first
           | (refine wpList_load_row rfl 68 (.tmp 10) rfl lo rfl 68 _ (0, 0) _ HB.out Tryz.underlying68 rfl size_dd14 ?_)
           | (at_builtin; refine wpList_append_lies _ rfl _ _ 24 rfl w.heap.size 68 i0 (.agg #[.int .i64 0, .int .i64 0, .int .i64 0, .slice none 0 0, .slice none 0 0]) 5 72 Tryz.underlying24 hi0 hz0 hz1 hz2 rfl (by omega) (.slice av ts.length cv) ts.length (cellsV ts ms) rfl HRow.out ⟨W7.heap.size, 0, none⟩ 1 1 [.int .i64 x, .int .i64 b0, .int .i64 (1000 + 37 * j4 + (ts.length : Int)), .slice ay rs.length cy, .slice az ws.length cz] rfl rfl (World.news_of_block HN.out) (by simp [Value.oneCell']) (by omega) (by unfold maxLen; omega) (by omega) hsz _ rfl ?_))
          intro gg cc w9 o9 g9 _ _
          have H9 := hid (HP o9 g9)
          clear o9 g9 HP HRow HA HB HD HN
          go_wp2_with fail
          go_roundw
          case rel => exact ⟨ts.length + 1, b0 + 1 + j1 + 1, _, by omega, by go_num, rfl, by omega, by omega, by rw [List.length_append, List.length_singleton], H9⟩
          case measure => simp [intOf]; omega
  · have hlt' : ¬ (ts.length : Int) < (nn : Int) := by omega
    go_wp2_with fail
    go_ret
    exact ⟨⟨_, ts, rfl, hD.out.2, by omega⟩, hD.out.1⟩
end Go.Proofs.YtjcjoabblafboaaGreat
