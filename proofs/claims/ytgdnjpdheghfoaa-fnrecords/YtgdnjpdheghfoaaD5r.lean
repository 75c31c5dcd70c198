/- The contract of the draw of a record. For codes of at most 2^21 bytes. -/
import Derived.Test.YtgdnjpdheghfoaaRdb
import Derived.Test.YtgdnjpdheghfoaaRk
import Derived.Test.YtgdnjpdheghfoaaRof
import Derived.Laws.AppendOwnNone
import Derived.Deep.AppendLies
namespace Go.Proofs.Ytgdnjpdheghfoaa
open Go.RowKit

/-- What the draw of a record answers, since the world w. -/
structure AnsB (M : Nat) (w : World) (g : Nat) (ad : Option Addr) (n cap : Nat) (zs : List Int) (e : Ending) (w' : World) : Prop where
  ex : ∃ K L X P S v D, e = .returned (.agg #[.int .i64 K, .int .i64 L, .int .i64 X, .int .i64 P, .int .i64 S, v]) ∧ w'.ownsRow w.heap.size 5 1 v D.length (bys D) ∧ (∀ i, 0 ≤ D.getD i 0 ∧ D.getD i 0 ≤ 255) ∧ D.length ≤ M ∧ Cur w' g ad n cap zs ∧ w.grownBy w' (some g)
theorem sizeRc' : (Try.prog.info? 36).map (·.size) = some 6 := by kernel_rfl
theorem finB {M : Nat} {w U wr : World} {g p q0 : Nat} {ad : Option Addr} {n cap : Nat} {zs : List Int} {K L X P S : Int} {v : Value} {D : List Int} {zc : Array Value} (G0 : w.grownBy U none) (hq : w.heap.size = q0) (hz : U.heap.size = q0 + 1) (T0 : U.heap[q0]? = some (.cells zc 36)) (hgl : g < q0)
    (h : Br U g p ad n cap zs wr K L X P S v D) (hM : D.length ≤ M) :
    wr.heap[q0]? = some (.cells zc 36) ∧ AnsB M w g ad n cap zs (.returned (.agg #[.int .i64 K, .int .i64 L, .int .i64 X, .int .i64 P, .int .i64 S, v])) (wr.setRow q0 #[.int .i64 K, .int .i64 L, .int .i64 X, .int .i64 P, .int .i64 S, v]) := by
  have T1 : wr.heap[q0]? = some (.cells zc 36) := (h.gr.block q0 (by omega) (by simp; omega)).trans T0
  refine ⟨T1, ?_⟩
  have hU : w.grownBy U (some g) := ⟨G0.os, G0.tape, G0.output, G0.size, fun k hk _ => G0.block k hk (by simp)⟩
  have hg : wr.grownBy (wr.setRow q0 #[.int .i64 K, .int .i64 L, .int .i64 X, .int .i64 P, .int .i64 S, v]) (some q0) := ⟨rfl, rfl, rfl, by simp, fun q _ hq => setRow_other _ _ _ _ (fun e => hq (by rw [e]))⟩
  exact ⟨K, L, X, P, S, v, D, rfl, owns_lower (h.own.kept hg (own_ty_ne h.own T1 (by decide))) (by omega), h.bd, hM, h.cur.other hg (fun q hq => by cases hq; exact hgl), grown_new (grown_trans hU h.gr) hg (fun r hr => by cases hr; omega)⟩

set_option maxRecDepth 100000 in
set_option maxHeartbeats 12800000 in
theorem l5record {w : World} {g : Nat} {ad : Option Addr} {n cap : Nat} {zs : List Int} (c : Cur w g ad n cap zs) (hn : n ≤ 2097152) (lsn : Int) :
    Calls Try.prog 55 #[.pointer (some ⟨g, 0, none⟩), .int .i64 lsn] w fun e w' => AnsB 1100 w g ad n cap zs e w' := by
  have hgl := c.lt
  go_enter Try.func55, Try.ntmps55
  go_wp2_with fail
  have c0 := c.alloc (.cells #[.int .i64 0, .int .i64 0, .int .i64 0, .int .i64 0, .int .i64 0, .slice none 0 0] 36)
  have G0 := hid (show w.grownBy (w.alloc (.cells #[.int .i64 0, .int .i64 0, .int .i64 0, .int .i64 0, .int .i64 0, .slice none 0 0] 36)) none from World.grownBy_alloc w _ none)
  have T0 := hid (heap_alloc_new w (.cells #[.int .i64 0, .int .i64 0, .int .i64 0, .int .i64 0, .int .i64 0, .slice none 0 0] 36))
  have Z0 := hid (alloc_size w (.cells #[.int .i64 0, .int .i64 0, .int .i64 0, .int .i64 0, .int .i64 0, .slice none 0 0] 36))
  generalize w.alloc (.cells #[.int .i64 0, .int .i64 0, .int .i64 0, .int .i64 0, .int .i64 0, .slice none 0 0] 36) = U at *
  generalize hq0 : w.heap.size = q0 at *
  have HQ := hid hq0
  have hgu : g < U.heap.size := by have := Z0.out; omega
  clear c hq0
  refine (l1Below c0 hn 5 (by omega) (by omega)).mono ?_
  rintro e w1 ⟨x, rfl, hx0, hx1, c1, g1⟩
  have hx : x = 0 ∨ x = 1 ∨ x = 2 ∨ x = 3 ∨ x = 4 := by omega
  clear c0 hx0 hx1
  rcases hx with rfl | rfl | rfl | rfl | rfl
  · have B0 := hid (Br.start (K := 1 + 0) (L := lsn) (X := 0) (P := 0) (S := 0) (v := .slice none 0 0) (D := []) hgu g1 c1 (World.ownsRow_nil _ _ _ _) (by simp))
    clear c1 g1
    have B1 : Hid (Br U g w1.heap.size ad n cap zs (w1.alloc (.cells #[.int .i64 1, .int .i64 lsn, .int .i64 0, .int .i64 0, .int .i64 0, .slice none 0 0] 36)) 1 lsn 0 0 0 (.slice none 0 0) []) := B0
    clear B0
    obtain ⟨z0, z1, z2, z3, z4, z5⟩ : BoxR (w1.alloc (.cells #[.int .i64 1, .int .i64 lsn, .int .i64 0, .int .i64 0, .int .i64 0, .slice none 0 0] 36)) w1.heap.size 1 lsn 0 0 0 none 0 0 := B1.out.cells
    go_wp2_with fail
    clear z0 z1 z2 z3 z4 z5
    generalize w1.alloc (.cells #[.int .i64 1, .int .i64 lsn, .int .i64 0, .int .i64 0, .int .i64 0, .slice none 0 0] 36) = V at *
    generalize w1.heap.size = p at *
    refine (l1Below B1.out.cur hn 16 (by omega) (by omega)).mono ?_
    rintro e v2 ⟨yP, rfl, hyP0, hyP1, cc, gg⟩
    have B2 := hid (B1.out.cursor cc gg)
    clear cc gg B1
    obtain ⟨z0, z1, z2, z3, z4, z5⟩ : BoxR v2 p 1 lsn 0 0 0 none 0 0 := B2.out.cells
    have zf := B2.out.froz 3
    have B2s := hid (B2.out.setP (yP))
    clear B2
    obtain ⟨x0, x1, x2, x3, x4, x5⟩ : BoxR (v2.setCell ⟨p, 3, none⟩ (.int .i64 (yP))) p 1 lsn 0 (yP) 0 none 0 0 := B2s.out.cells
    obtain ⟨i0, hi, hz0, hz1, hz2⟩ := info_parts Try.info5
    have hUz := B2s.out.size
    go_wp2_with (at_make; refine wpList_make_full _ rfl _ _ 22 rfl U.heap.size 5 i0 (.int .u8 0) 1 Try.underlying22 hi hz0 hz1 _ _ _ _ 256 rfl rfl (by omega) (by omega) ?b2 ?b3 hUz ?_)
    case b2 => rw [hz2]; omega
    case b3 => unfold maxLen; omega
    intro w0 hown0 hgrow0
    rw [toList_madeCells_one] at hown0
    have B3 := hid (B2s.out.fresh hgrow0)
    have hsz : (v2.setCell ⟨p, 3, none⟩ (.int .i64 yP)).heap.size = v2.heap.size := by simp [World.setCell]
    try rw [hsz] at hown0
    try simp only [hsz]
    have O3 := hid (show w0.ownsRow U.heap.size 5 1 (.slice (some ⟨v2.heap.size, 0, none⟩) 256 256) (List.replicate 256 (0 : Int)).length (bys (List.replicate 256 0)) by simpa [bys] using hown0)
    clear hsz
    generalize v2.heap.size = m0 at *
    clear hown0 hgrow0 z0 z1 z2 z3 z4 z5 zf x0 x1 x2 x3 x4 x5 B2s hi hz0 hz1 hz2 hUz
    obtain ⟨z0, z1, z2, z3, z4, z5⟩ : BoxR w0 p 1 lsn 0 (yP) 0 none 0 0 := B3.out.cells
    have zf := B3.out.froz 5
    have B4 := hid (B3.out.setV O3.out (fun i => by rw [List.getD_eq_getElem?_getD, List.getElem?_replicate]; split <;> simp))
    have x5 : (w0.setCell ⟨p, 5, none⟩ (.slice (some ⟨m0, 0, none⟩) 256 256)).cell? ⟨p, 5, none⟩ = some (.slice (some ⟨m0, 0, none⟩) 256 256) := B4.out.c5
    go_wp2_with fail
    clear z0 z1 z2 z3 z4 z5 zf x5 B3 O3
    generalize w0.setCell ⟨p, 5, none⟩ (.slice (some ⟨m0, 0, none⟩) 256 256) = w5 at *
    have H4 := hid B4.out.drew.c5
    refine region_K 8 (fun X => X.cell? ⟨p, 5, none⟩ = some (.slice (some ⟨m0, 0, none⟩) 256 256)) (by kernel_rfl) ?_ (fun hHeld => ?_)
    · exact H4.out
    refine anyK_take (i := 0) (v := ?v7001) rfl (by kernel_rfl) (by kernel_rfl) (by kernel_rfl) (by kernel_rfl) (fun _ _ _ h => h) (by rfl) hHeld ?hy7001 (some 41) (by rfl) ?rest7001
    case hy7001 => (intro W hSw; (try dsimp only at hSw); go_simp; (try with_reducible rfl))
    try simp only [Act.put]
    try simp only [List.setIfInBounds_toArray]
    try simp only [List.set_cons_succ, List.set_cons_zero]
    refine anyK_take (i := 1) (v := ?v7002) rfl (by kernel_rfl) (by kernel_rfl) (by kernel_rfl) (by kernel_rfl) (fun _ _ _ h => h) (by rfl) hHeld ?hy7002 (some 42) (by rfl) ?rest7002
    case hy7002 => (intro W hSw; (try dsimp only at hSw); go_simp; (try with_reducible rfl))
    try simp only [Act.put]
    try simp only [List.setIfInBounds_toArray]
    try simp only [List.set_cons_succ, List.set_cons_zero]
    refine anyK_take (i := 2) (v := ?v7003) rfl (by kernel_rfl) (by kernel_rfl) (by kernel_rfl) (by kernel_rfl) (fun _ _ _ h => h) (by rfl) hHeld ?hy7003 (some 43) (by rfl) ?rest7003
    case hy7003 => (intro W hSw; (try dsimp only at hSw); go_simp; (try with_reducible rfl))
    try simp only [Act.put]
    try simp only [List.setIfInBounds_toArray]
    try simp only [List.set_cons_succ, List.set_cons_zero]
    refine anyK_take (i := 4) (v := ?v7004) rfl (by kernel_rfl) (by kernel_rfl) (by kernel_rfl) (by kernel_rfl) (fun _ _ _ h => h) (by rfl) hHeld ?hy7004 (some 45) (by rfl) ?rest7004
    case hy7004 => (intro W hSw; (try dsimp only at hSw); go_simp; (try with_reducible rfl))
    try simp only [Act.put]
    try simp only [List.setIfInBounds_toArray]
    try simp only [List.set_cons_succ, List.set_cons_zero]
    refine anyK_step (i := 3) (by kernel_rfl) rfl (fun K hK => ?_)
    go_simp
    refine (l1Below B4.out.drew.cur hn 256 (by omega) (by omega)).mono ?_
    rintro e w6 ⟨y, rfl, hy0, hy1, cc, gg⟩
    obtain ⟨y, rfl⟩ := Int.eq_ofNat_of_zero_le hy0
    have B6 := hid (B4.out.drew.cursor cc gg)
    clear cc gg
    go_wp2_with fail
    refine hK.out _ _ ?_ (fun hH2 => ?_)
    · exact B6.out.c5
    clear hK K hHeld
    have hHeld := hH2
    clear hH2
    try simp only [Act.put]
    try simp only [List.setIfInBounds_toArray]
    try simp only [List.set_cons_succ, List.set_cons_zero]
    refine anyK_step (i := 5) (by kernel_rfl) rfl (fun K hK => ?_)
    go_simp
    refine (l1Byte B6.out.cur hn).mono ?_
    rintro e w7 ⟨t, rfl, ht0, ht1, cc, gg⟩
    have B7 := hid (B6.out.cursor cc gg)
    clear cc gg
    go_wp2_with fail
    refine hK.out _ _ ?_ (fun hH2 => ?_)
    · exact B7.out.c5
    clear hK K hHeld
    have hHeld := hH2
    clear hH2
    try simp only [Act.put]
    try simp only [List.setIfInBounds_toArray]
    try simp only [List.set_cons_succ, List.set_cons_zero]
    refine anyK_take (i := 6) (v := ?v7007) rfl (by kernel_rfl) (by kernel_rfl) (by kernel_rfl) (by kernel_rfl) (fun _ _ _ h => h) (by rfl) hHeld ?hy7007 (some 47) (by rfl) ?rest7007
    case hy7007 => (intro W hSw; (try dsimp only at hSw); go_simp; (try with_reducible rfl))
    try simp only [Act.put]
    try simp only [List.setIfInBounds_toArray]
    try simp only [List.set_cons_succ, List.set_cons_zero]
    have hy2 : y < 256 := by omega
    have d0 : w7.cell? ⟨m0, y, none⟩ = some (.int .u8 ((List.replicate 256 (0 : Int)).getD y 0)) := by rw [B7.out.own.cellAt y (by simpa using hy2)]; simp only [bys, List.getElem?_map, List.getD_eq_getElem?_getD, List.getElem?_replicate, if_pos hy2]; rfl
    have f0 : w7.frozen? ⟨m0, y, none⟩ = false := B7.out.own.frozenAt y
    have B8 := hid (B7.out.byte y t ht0 ht1)
    generalize (List.replicate 256 (0 : Int)).getD y 0 = old at d0
    refine anyK_step (i := 7) (by kernel_rfl) rfl (fun K hK => ?_)
    go_simp
    refine hK.out _ _ ?_ (fun hH2 => ?_)
    · exact B7.out.c5
    clear hK K hHeld
    have hHeld := hH2
    clear hH2
    try simp only [Act.put]
    try simp only [List.setIfInBounds_toArray]
    try simp only [List.set_cons_succ, List.set_cons_zero]
    refine anyK_last (by kernel_rfl) rfl (fun K hK => ?_)
    go_simp
    refine hK.out _ _ ?_
    clear hK K hHeld
    refine anyK_done (by kernel_rfl) ?_ _
    rw [show IntKind.u8.wrap t = t by rw [IntKind.wrap_u8]; omega]
    clear d0 f0
    have FA := finB (M := 1100) G0.out HQ.out Z0.out T0.out hgl B8.out (by first | (simp; done) | (simp; omega))
    have TQ := hid FA.1
    have AN := hid FA.2
    have TP := hid B8.out.box
    clear FA
    go_wp2_with (first
      | (refine wpList_load_row rfl 36 (.tmp 5) rfl p rfl 36 _ (0, 0) _ TP.out Try.underlying36 rfl sizeRc' ?_)
      | (refine wpList_store_row rfl 36 (.tmp 4) (.tmp 59) rfl q0 #[.int .i64 1, .int .i64 lsn, .int .i64 0, .int .i64 yP, .int .i64 0, .slice (some ⟨m0, 0, none⟩) 256 256] rfl rfl 36 _ TQ.out ?s1x1 ?s2x1 ?s3x1 ?_))
    case s1x1 => simpa using sizeRc'
    try case s2x1 => rfl
    case s3x1 => simp [Value.oneCell']
    refine bodyPost_ret (results_cell_row Try.results55 _ _ q0 36 #[.int .i64 1, .int .i64 lsn, .int .i64 0, .int .i64 yP, .int .i64 0, .slice (some ⟨m0, 0, none⟩) 256 256] (0, 0) _ rfl (setRow_heap _ _ _ _ _ _ TQ.out) Try.underlying36 rfl sizeRc') rfl ?_
    exact AN.out
  · have B0 := hid (Br.start (K := 1 + 1) (L := lsn) (X := 0) (P := 0) (S := 0) (v := .slice none 0 0) (D := []) hgu g1 c1 (World.ownsRow_nil _ _ _ _) (by simp))
    clear c1 g1
    have B1 : Hid (Br U g w1.heap.size ad n cap zs (w1.alloc (.cells #[.int .i64 2, .int .i64 lsn, .int .i64 0, .int .i64 0, .int .i64 0, .slice none 0 0] 36)) 2 lsn 0 0 0 (.slice none 0 0) []) := B0
    clear B0
    obtain ⟨z0, z1, z2, z3, z4, z5⟩ : BoxR (w1.alloc (.cells #[.int .i64 2, .int .i64 lsn, .int .i64 0, .int .i64 0, .int .i64 0, .slice none 0 0] 36)) w1.heap.size 2 lsn 0 0 0 none 0 0 := B1.out.cells
    go_wp2_with fail
    clear z0 z1 z2 z3 z4 z5
    generalize w1.alloc (.cells #[.int .i64 2, .int .i64 lsn, .int .i64 0, .int .i64 0, .int .i64 0, .slice none 0 0] 36) = V at *
    generalize w1.heap.size = p at *
    refine (l1Below B1.out.cur hn 9 (by omega) (by omega)).mono ?_
    rintro e v2 ⟨yX, rfl, hyX0, hyX1, cc, gg⟩
    have B2 := hid (B1.out.cursor cc gg)
    clear cc gg B1
    obtain ⟨z0, z1, z2, z3, z4, z5⟩ : BoxR v2 p 2 lsn 0 0 0 none 0 0 := B2.out.cells
    have zf := B2.out.froz 2
    have B2s := hid (B2.out.setX (1 + yX))
    clear B2
    obtain ⟨x0, x1, x2, x3, x4, x5⟩ : BoxR (v2.setCell ⟨p, 2, none⟩ (.int .i64 (1 + yX))) p 2 lsn (1 + yX) 0 0 none 0 0 := B2s.out.cells
    go_wp2_with fail
    clear z0 z1 z2 z3 z4 z5 zf x0 x1 x2 x3 x4 x5
    generalize v2.setCell ⟨p, 2, none⟩ (.int .i64 (1 + yX)) = u2 at *
    refine (l1Below B2s.out.cur hn 16 (by omega) (by omega)).mono ?_
    rintro e v3 ⟨yP, rfl, hyP0, hyP1, cc, gg⟩
    have B3 := hid (B2s.out.cursor cc gg)
    clear cc gg B2s
    obtain ⟨z0, z1, z2, z3, z4, z5⟩ : BoxR v3 p 2 lsn (1 + yX) 0 0 none 0 0 := B3.out.cells
    have zf := B3.out.froz 3
    have B3s := hid (B3.out.setP (yP))
    clear B3
    obtain ⟨x0, x1, x2, x3, x4, x5⟩ : BoxR (v3.setCell ⟨p, 3, none⟩ (.int .i64 (yP))) p 2 lsn (1 + yX) (yP) 0 none 0 0 := B3s.out.cells
    go_wp2_with fail
    clear z0 z1 z2 z3 z4 z5 zf x0 x1 x2 x3 x4 x5
    generalize v3.setCell ⟨p, 3, none⟩ (.int .i64 (yP)) = u3 at *
    refine (l1Below B3s.out.cur hn 16 (by omega) (by omega)).mono ?_
    rintro e v4 ⟨yS, rfl, hyS0, hyS1, cc, gg⟩
    have B4 := hid (B3s.out.cursor cc gg)
    clear cc gg B3s
    obtain ⟨z0, z1, z2, z3, z4, z5⟩ : BoxR v4 p 2 lsn (1 + yX) (yP) 0 none 0 0 := B4.out.cells
    have zf := B4.out.froz 4
    have B4s := hid (B4.out.setS (yS))
    clear B4
    obtain ⟨x0, x1, x2, x3, x4, x5⟩ : BoxR (v4.setCell ⟨p, 4, none⟩ (.int .i64 (yS))) p 2 lsn (1 + yX) (yP) (yS) none 0 0 := B4s.out.cells
    go_wp2_with fail
    clear z0 z1 z2 z3 z4 z5 zf x0 x1 x2 x3 x4 x5
    generalize v4.setCell ⟨p, 4, none⟩ (.int .i64 (yS)) = u4 at *
    refine (l1Byte B4s.out.cur hn).mono ?_
    rintro e v6 ⟨yb, rfl, hb0, hb1, cc, gg⟩
    have B6 := hid (B4s.out.cursor cc gg)
    clear cc gg B4s
    go_wp2_with fail
    have B7 := hid (B6.out.alloc (.cells #[.int .u8 yb] 5))
    have O7 := hid (World.ownsRow_lit (base := U.heap.size) (e := 5) (size := 1) v6 #[.int .u8 yb] 1 B6.out.size (by unfold maxLen; omega) rfl)
    clear B6
    refine (l1some B7.out.cur hn 20 (by omega) (by omega)).mono ?_
    rintro e v8 ⟨sv, SL, rfl, o8, bd8, hSL, cc, gg⟩
    have B8 := hid (B7.out.cursor cc gg)
    have O8 := hid (O7.out.kept gg (.inr (by have h1 := B7.out.gl; have h2 := (O7.out.lt _ rfl).1; simp [Value.ownBlock] at h2 ⊢; omega)))
    have S8 := hid o8
    clear cc gg B7 O7 o8
    obtain ⟨z0, z1, z2, z3, z4, z5⟩ : BoxR v8 p 2 lsn (1 + yX) (yP) (yS) none 0 0 := B8.out.cells
    obtain ⟨i0, hi, hz0, hz1, hz2⟩ := info_parts Try.info5
    have hUz := B8.out.size
    rcases (Reads.own S8.out bd8) with ⟨sa, sc, rfl, rs8, -⟩
    have RS8 := hid rs8
    clear rs8
    rcases S8.out.2 with ⟨hs1, hs2⟩ | ⟨sg, scap, scur, hs1, hs2⟩
    · obtain ⟨rfl, hs3, rfl⟩ := Value.slice.inj hs1
      have B9 := hid (B8.out.setV (v' := .slice (some ⟨v6.heap.size, 0, none⟩) 1 1) (D' := [yb]) O8.out (bd_one yb hb0 hb1))
      rw [hs2]
      have zf := B8.out.froz 5
      have FA := finB (M := 1100) G0.out HQ.out Z0.out T0.out hgl B9.out (by first | (simp; done) | (simp; omega))
      have TQ := hid FA.1
      have AN := hid FA.2
      have TP := hid B9.out.box
      clear FA
      go_wp2_with (first
        | (at_builtin; refine wpList_append_own_none rfl _ _ 22 rfl U.heap.size 5 i0 1 Try.underlying22 hi _ _ _ rfl O8.out rfl ?_)
        | (refine wpList_load_row rfl 36 (.tmp 5) rfl p rfl 36 _ (0, 0) _ TP.out Try.underlying36 rfl sizeRc' ?_)
        | (refine wpList_store_row rfl 36 (.tmp 4) (.tmp 59) rfl q0 #[.int .i64 2, .int .i64 lsn, .int .i64 (1 + yX), .int .i64 yP, .int .i64 yS, .slice (some ⟨v6.heap.size, 0, none⟩) 1 1] rfl rfl 36 _ TQ.out ?s1x2 ?s2x2 ?s3x2 ?_))
      case s1x2 => simpa using sizeRc'
      try case s2x2 => rfl
      case s3x2 => simp [Value.oneCell']
      refine bodyPost_ret (results_cell_row Try.results55 _ _ q0 36 #[.int .i64 2, .int .i64 lsn, .int .i64 (1 + yX), .int .i64 yP, .int .i64 yS, .slice (some ⟨v6.heap.size, 0, none⟩) 1 1] (0, 0) _ rfl (setRow_heap _ _ _ _ _ _ TQ.out) Try.underlying36 rfl sizeRc') rfl ?_
      exact AN.out
    · obtain ⟨rfl, hs3, rfl⟩ := Value.slice.inj hs1
      go_wp2_with (at_builtin; refine wpList_append_own _ rfl _ _ 22 rfl U.heap.size 5 i0 (.int .u8 0) 1 1 Try.underlying22 hi hz0 hz1 hz2 rfl (by decide) _ _ _ rfl O8.out ⟨sg, 0, none⟩ SL.length _ (bys SL) rfl (by rw [bys_length]; omega) RS8.out.news (bys_one _) (by unfold maxLen; omega) (by omega) hUz ?_)
      intro v' w9 o9 g9 _
      obtain ⟨vg, vc, rfl, -, -⟩ := o9.form (by omega)
      have B9 := hid (B8.out.beside O8.out g9)
      have O9 := hid (show w9.ownsRow U.heap.size 5 1 (.slice (some ⟨vg, 0, none⟩) (1 + SL.length) vc) (yb :: SL).length (bys (yb :: SL)) from (show (yb :: SL).length = 1 + SL.length by simp [Nat.add_comm]) ▸ o9)
      have B10 := hid (B9.out.setV O9.out (bd_append (bd_one yb hb0 hb1) bd8))
      clear o9 g9 z0 z1 z2 z3 z4 z5 hi hz0 hz1 hz2 B8
      obtain ⟨z0, z1, z2, z3, z4, z5⟩ : BoxR w9 p 2 lsn (1 + yX) (yP) (yS) none 0 0 := B9.out.cells
      have zf := B9.out.froz 5
      have FA := finB (M := 1100) G0.out HQ.out Z0.out T0.out hgl B10.out (by first | (simp; done) | (simp; omega))
      have TQ := hid FA.1
      have AN := hid FA.2
      have TP := hid B10.out.box
      clear FA
      go_wp2_with (first
        | (refine wpList_load_row rfl 36 (.tmp 5) rfl p rfl 36 _ (0, 0) _ TP.out Try.underlying36 rfl sizeRc' ?_)
        | (refine wpList_store_row rfl 36 (.tmp 4) (.tmp 59) rfl q0 #[.int .i64 2, .int .i64 lsn, .int .i64 (1 + yX), .int .i64 yP, .int .i64 yS, .slice (some ⟨vg, 0, none⟩) (1 + SL.length) vc] rfl rfl 36 _ TQ.out ?s1x3 ?s2x3 ?s3x3 ?_))
      case s1x3 => simpa using sizeRc'
      try case s2x3 => rfl
      case s3x3 => simp [Value.oneCell']
      refine bodyPost_ret (results_cell_row Try.results55 _ _ q0 36 #[.int .i64 2, .int .i64 lsn, .int .i64 (1 + yX), .int .i64 yP, .int .i64 yS, .slice (some ⟨vg, 0, none⟩) (1 + SL.length) vc] (0, 0) _ rfl (setRow_heap _ _ _ _ _ _ TQ.out) Try.underlying36 rfl sizeRc') rfl ?_
      exact AN.out
  · have B0 := hid (Br.start (K := 1 + 2) (L := lsn) (X := 0) (P := 0) (S := 0) (v := .slice none 0 0) (D := []) hgu g1 c1 (World.ownsRow_nil _ _ _ _) (by simp))
    clear c1 g1
    have B1 : Hid (Br U g w1.heap.size ad n cap zs (w1.alloc (.cells #[.int .i64 3, .int .i64 lsn, .int .i64 0, .int .i64 0, .int .i64 0, .slice none 0 0] 36)) 3 lsn 0 0 0 (.slice none 0 0) []) := B0
    clear B0
    obtain ⟨z0, z1, z2, z3, z4, z5⟩ : BoxR (w1.alloc (.cells #[.int .i64 3, .int .i64 lsn, .int .i64 0, .int .i64 0, .int .i64 0, .slice none 0 0] 36)) w1.heap.size 3 lsn 0 0 0 none 0 0 := B1.out.cells
    go_wp2_with fail
    clear z0 z1 z2 z3 z4 z5
    generalize w1.alloc (.cells #[.int .i64 3, .int .i64 lsn, .int .i64 0, .int .i64 0, .int .i64 0, .slice none 0 0] 36) = V at *
    generalize w1.heap.size = p at *
    refine (l1Below B1.out.cur hn 9 (by omega) (by omega)).mono ?_
    rintro e v2 ⟨yX, rfl, hyX0, hyX1, cc, gg⟩
    have B2 := hid (B1.out.cursor cc gg)
    clear cc gg B1
    obtain ⟨z0, z1, z2, z3, z4, z5⟩ : BoxR v2 p 3 lsn 0 0 0 none 0 0 := B2.out.cells
    have zf := B2.out.froz 2
    have B2s := hid (B2.out.setX (1 + yX))
    clear B2
    obtain ⟨x0, x1, x2, x3, x4, x5⟩ : BoxR (v2.setCell ⟨p, 2, none⟩ (.int .i64 (1 + yX))) p 3 lsn (1 + yX) 0 0 none 0 0 := B2s.out.cells
    go_wp2_with fail
    clear z0 z1 z2 z3 z4 z5 zf x0 x1 x2 x3 x4 x5
    generalize v2.setCell ⟨p, 2, none⟩ (.int .i64 (1 + yX)) = u2 at *
    refine (l1Below B2s.out.cur hn 16 (by omega) (by omega)).mono ?_
    rintro e v3 ⟨yP, rfl, hyP0, hyP1, cc, gg⟩
    have B3 := hid (B2s.out.cursor cc gg)
    clear cc gg B2s
    obtain ⟨z0, z1, z2, z3, z4, z5⟩ : BoxR v3 p 3 lsn (1 + yX) 0 0 none 0 0 := B3.out.cells
    have zf := B3.out.froz 3
    have B3s := hid (B3.out.setP (yP))
    clear B3
    obtain ⟨x0, x1, x2, x3, x4, x5⟩ : BoxR (v3.setCell ⟨p, 3, none⟩ (.int .i64 (yP))) p 3 lsn (1 + yX) (yP) 0 none 0 0 := B3s.out.cells
    go_wp2_with fail
    clear z0 z1 z2 z3 z4 z5 zf x0 x1 x2 x3 x4 x5
    generalize v3.setCell ⟨p, 3, none⟩ (.int .i64 (yP)) = u3 at *
    refine (l1Below B3s.out.cur hn 16 (by omega) (by omega)).mono ?_
    rintro e v4 ⟨yS, rfl, hyS0, hyS1, cc, gg⟩
    have B4 := hid (B3s.out.cursor cc gg)
    clear cc gg B3s
    obtain ⟨z0, z1, z2, z3, z4, z5⟩ : BoxR v4 p 3 lsn (1 + yX) (yP) 0 none 0 0 := B4.out.cells
    have zf := B4.out.froz 4
    have B4s := hid (B4.out.setS (yS))
    clear B4
    have x0 := B4s.out.cells.c0
    have FA := finB (M := 1100) G0.out HQ.out Z0.out T0.out hgl B4s.out (by first | (simp; done) | (simp; omega))
    have TQ := hid FA.1
    have AN := hid FA.2
    have TP := hid B4s.out.box
    clear FA
    go_wp2_with (first
      | (refine wpList_load_row rfl 36 (.tmp 5) rfl p rfl 36 _ (0, 0) _ TP.out Try.underlying36 rfl sizeRc' ?_)
      | (refine wpList_store_row rfl 36 (.tmp 4) (.tmp 59) rfl q0 #[.int .i64 3, .int .i64 lsn, .int .i64 (1 + yX), .int .i64 (yP), .int .i64 (yS), .slice none 0 0] rfl rfl 36 _ TQ.out ?s1x4 ?s2x4 ?s3x4 ?_))
    case s1x4 => simpa using sizeRc'
    try case s2x4 => rfl
    case s3x4 => simp [Value.oneCell']
    refine bodyPost_ret (results_cell_row Try.results55 _ _ q0 36 #[.int .i64 3, .int .i64 lsn, .int .i64 (1 + yX), .int .i64 (yP), .int .i64 (yS), .slice none 0 0] (0, 0) _ rfl (setRow_heap _ _ _ _ _ _ TQ.out) Try.underlying36 rfl sizeRc') rfl ?_
    exact AN.out
  · have B0 := hid (Br.start (K := 1 + 3) (L := lsn) (X := 0) (P := 0) (S := 0) (v := .slice none 0 0) (D := []) hgu g1 c1 (World.ownsRow_nil _ _ _ _) (by simp))
    clear c1 g1
    have B1 : Hid (Br U g w1.heap.size ad n cap zs (w1.alloc (.cells #[.int .i64 4, .int .i64 lsn, .int .i64 0, .int .i64 0, .int .i64 0, .slice none 0 0] 36)) 4 lsn 0 0 0 (.slice none 0 0) []) := B0
    clear B0
    obtain ⟨z0, z1, z2, z3, z4, z5⟩ : BoxR (w1.alloc (.cells #[.int .i64 4, .int .i64 lsn, .int .i64 0, .int .i64 0, .int .i64 0, .slice none 0 0] 36)) w1.heap.size 4 lsn 0 0 0 none 0 0 := B1.out.cells
    go_wp2_with fail
    clear z0 z1 z2 z3 z4 z5
    generalize w1.alloc (.cells #[.int .i64 4, .int .i64 lsn, .int .i64 0, .int .i64 0, .int .i64 0, .slice none 0 0] 36) = V at *
    generalize w1.heap.size = p at *
    refine (l1Below B1.out.cur hn 16 (by omega) (by omega)).mono ?_
    rintro e v2 ⟨yP, rfl, hyP0, hyP1, cc, gg⟩
    have B2 := hid (B1.out.cursor cc gg)
    clear cc gg B1
    obtain ⟨z0, z1, z2, z3, z4, z5⟩ : BoxR v2 p 4 lsn 0 0 0 none 0 0 := B2.out.cells
    have zf := B2.out.froz 3
    have B2s := hid (B2.out.setP (yP))
    clear B2
    obtain ⟨x0, x1, x2, x3, x4, x5⟩ : BoxR (v2.setCell ⟨p, 3, none⟩ (.int .i64 (yP))) p 4 lsn 0 (yP) 0 none 0 0 := B2s.out.cells
    go_wp2_with fail
    clear z0 z1 z2 z3 z4 z5 zf x0 x1 x2 x3 x4 x5
    generalize v2.setCell ⟨p, 3, none⟩ (.int .i64 (yP)) = u2 at *
    refine (l1Below B2s.out.cur hn 16 (by omega) (by omega)).mono ?_
    rintro e v3 ⟨yS, rfl, hyS0, hyS1, cc, gg⟩
    have B3 := hid (B2s.out.cursor cc gg)
    clear cc gg B2s
    obtain ⟨z0, z1, z2, z3, z4, z5⟩ : BoxR v3 p 4 lsn 0 (yP) 0 none 0 0 := B3.out.cells
    have zf := B3.out.froz 4
    have B3s := hid (B3.out.setS (yS))
    clear B3
    have x0 := B3s.out.cells.c0
    have FA := finB (M := 1100) G0.out HQ.out Z0.out T0.out hgl B3s.out (by first | (simp; done) | (simp; omega))
    have TQ := hid FA.1
    have AN := hid FA.2
    have TP := hid B3s.out.box
    clear FA
    go_wp2_with (first
      | (refine wpList_load_row rfl 36 (.tmp 5) rfl p rfl 36 _ (0, 0) _ TP.out Try.underlying36 rfl sizeRc' ?_)
      | (refine wpList_store_row rfl 36 (.tmp 4) (.tmp 59) rfl q0 #[.int .i64 4, .int .i64 lsn, .int .i64 0, .int .i64 (yP), .int .i64 (yS), .slice none 0 0] rfl rfl 36 _ TQ.out ?s1x5 ?s2x5 ?s3x5 ?_))
    case s1x5 => simpa using sizeRc'
    try case s2x5 => rfl
    case s3x5 => simp [Value.oneCell']
    refine bodyPost_ret (results_cell_row Try.results55 _ _ q0 36 #[.int .i64 4, .int .i64 lsn, .int .i64 0, .int .i64 (yP), .int .i64 (yS), .slice none 0 0] (0, 0) _ rfl (setRow_heap _ _ _ _ _ _ TQ.out) Try.underlying36 rfl sizeRc') rfl ?_
    exact AN.out
  · have B0 := hid (Br.start (K := 1 + 4) (L := lsn) (X := 0) (P := 0) (S := 0) (v := .slice none 0 0) (D := []) hgu g1 c1 (World.ownsRow_nil _ _ _ _) (by simp))
    clear c1 g1
    have B1 : Hid (Br U g w1.heap.size ad n cap zs (w1.alloc (.cells #[.int .i64 5, .int .i64 lsn, .int .i64 0, .int .i64 0, .int .i64 0, .slice none 0 0] 36)) 5 lsn 0 0 0 (.slice none 0 0) []) := B0
    clear B0
    obtain ⟨z0, z1, z2, z3, z4, z5⟩ : BoxR (w1.alloc (.cells #[.int .i64 5, .int .i64 lsn, .int .i64 0, .int .i64 0, .int .i64 0, .slice none 0 0] 36)) w1.heap.size 5 lsn 0 0 0 none 0 0 := B1.out.cells
    go_wp2_with fail
    clear z0 z1 z2 z3 z4 z5
    generalize w1.alloc (.cells #[.int .i64 5, .int .i64 lsn, .int .i64 0, .int .i64 0, .int .i64 0, .slice none 0 0] 36) = V at *
    generalize w1.heap.size = p at *
    refine (l1Below B1.out.cur hn 9 (by omega) (by omega)).mono ?_
    rintro e v2 ⟨yX, rfl, hyX0, hyX1, cc, gg⟩
    have B2 := hid (B1.out.cursor cc gg)
    clear cc gg B1
    obtain ⟨z0, z1, z2, z3, z4, z5⟩ : BoxR v2 p 5 lsn 0 0 0 none 0 0 := B2.out.cells
    have zf := B2.out.froz 2
    have B2s := hid (B2.out.setX (1 + yX))
    clear B2
    have x0 := B2s.out.cells.c0
    have FA := finB (M := 1100) G0.out HQ.out Z0.out T0.out hgl B2s.out (by first | (simp; done) | (simp; omega))
    have TQ := hid FA.1
    have AN := hid FA.2
    have TP := hid B2s.out.box
    clear FA
    go_wp2_with (first
      | (refine wpList_load_row rfl 36 (.tmp 5) rfl p rfl 36 _ (0, 0) _ TP.out Try.underlying36 rfl sizeRc' ?_)
      | (refine wpList_store_row rfl 36 (.tmp 4) (.tmp 59) rfl q0 #[.int .i64 5, .int .i64 lsn, .int .i64 (1 + yX), .int .i64 0, .int .i64 0, .slice none 0 0] rfl rfl 36 _ TQ.out ?s1x6 ?s2x6 ?s3x6 ?_))
    case s1x6 => simpa using sizeRc'
    try case s2x6 => rfl
    case s3x6 => simp [Value.oneCell']
    refine bodyPost_ret (results_cell_row Try.results55 _ _ q0 36 #[.int .i64 5, .int .i64 lsn, .int .i64 (1 + yX), .int .i64 0, .int .i64 0, .slice none 0 0] (0, 0) _ rfl (setRow_heap _ _ _ _ _ _ TQ.out) Try.underlying36 rfl sizeRc') rfl ?_
    exact AN.out
end Go.Proofs.Ytgdnjpdheghfoaa
