/- The contract of the program's PageBytes. Conditions: lists of at most 2^47. -/
import Derived.Test.YtdfieopdbpklnaaCk
namespace Go.Proofs.Ytdfieopdbpklnaa
open Go.RowKit Go.Shelf
attribute [local go_sem] Oper.semAt_some

theorem KeepsOthers.below {W W' : World} (b : Below W.heap.size W W') : KeepsOthers W W' := ⟨b.size, fun k _ hk _ => (b.block k (Array.getElem?_eq_some_iff.1 hk).1).trans hk⟩
theorem own_keptK {W W' : World} {row : Option Nat} {base m : Nat} {e : TypeId} {s : Nat} {v : Value} {xs : List Value} (o : W.ownsRow base e s v m xs) (hg : W.grownBy W' row) (hr : ∀ r, row = some r → ∃ o : Obj, W.heap[r]? = some o ∧ o.isCells = false) : W'.ownsRow base e s v m xs := by
  refine o.kept hg ?_
  rcases o.2 with ⟨rfl, _⟩ | ⟨g, cap, cur, rfl, _, hgg, _⟩
  · exact .inl rfl
  · right
    intro e
    obtain ⟨ob, h1, h2⟩ := hr g e.symm
    rw [hgg] at h1
    cases h1
    cases h2
theorem reads_keptK {W W' : World} {row : Option Nat} {ad : Option Addr} {n : Nat} {zs : List Int} (h : Reads W ad n zs) (hg : W.grownBy W' row) (hr : ∀ r, row = some r → ∃ o : Obj, W.heap[r]? = some o ∧ o.isCells = false) : Reads W' ad n zs := by
  refine ⟨h.len, h.cells.imp id ?_, h.bd⟩
  rintro ⟨b, off, e, hc⟩
  exact ⟨b, off, e, fun i hi => cell_kept (hc i hi) hg hr⟩

/-- The sectors that have come. -/
def secsX (L : Int) (body : List Int) (xs : List Nat) : List Int := (xs.map fun x => putL L 4 ++ (body.drop (60 * min x 3)).take 60).flatten
theorem secsX_snoc (L : Int) (body : List Int) (xs : List Nat) (x : Nat) : secsX L body (xs ++ [x]) = secsX L body xs ++ (putL L 4 ++ (body.drop (60 * min x 3)).take 60) := by simp [secsX]
theorem secsX_mem {L : Int} {body : List Int} {xs : List Nat} (hb : bdZ body) {z : Int} (hz : z ∈ secsX L body xs) : 0 ≤ z ∧ z ≤ 255 := by
  unfold secsX at hz
  obtain ⟨y, hy, hzy⟩ := List.mem_flatten.1 hz
  obtain ⟨x, _, rfl⟩ := List.mem_map.1 hy
  exact ((show bdZ (putL L 4) from putL_bd L 4).app (hb.sub fun q hq => List.mem_of_mem_drop (List.mem_of_mem_take hq))).of z hzy
theorem secsX_up (L : Int) (body : List Int) : secsX L body (up 4) = secsP L body 4 := by
  simp [secsX, up, secsP, List.range_succ]

set_option maxRecDepth 100000 in
set_option maxHeartbeats 6400000 in
theorem impl_PageBytes (L : Int) {a : Option Addr} {n : Nat} (c : Nat) {ss : List (List Int)} {w : World} (h : ReadsS w a ss) (hl : ss.length = n) (hn : n ≤ 140737488355328) :
    Calls Try.prog 18 #[.agg #[.int .i64 L, .slice a n c]] w fun e w' => ∃ v, e = .returned v ∧ w'.ownsRow w.heap.size 5 1 v (bytesP L ss).length (bys (bytesP L ss)) ∧ Below w.heap.size w w' := by
  have HX := hid (ArgP.new L n c h 26 w.heap.size rfl)
  have HB := hid (Below.alloc1 w (.cells #[.int .i64 L, .slice a n c] 26))
  clear h
  refine (callsIn_wide (n := 9)).1 ?_
  refine callsIn_of_wp_marks Try.func18 rfl trivial ?_ rfl
  simp only [Try.ntmps18, List.size_toArray, List.length_cons, List.length_nil, Nat.reduceAdd, Nat.reduceSub, Array.replicate_succ, Array.replicate_zero, List.push_toArray, List.append_toArray, List.nil_append, List.cons_append]
  gi_wp2_with fail
  refine ⟨trivial, ((callsIn_wide (n := _)).2 (impl_isPage L c HX.out.reads hl hn)).mono ?_⟩
  rintro e w1 ⟨rfl, b⟩
  replace HX := hid (HX.out.below b (Nat.le_refl _))
  replace HB := hid (HB.out.trans (b.mono HB.out.size))
  clear b
  by_cases h1 : okP L ss = false
  · rw [h1]
    have HE := hid (bytesP_no h1)
    clear h1
    gi_wp2_with fail
    refine ⟨.slice none 0 0, ?_, ⟨_, rfl, by rw [HE.out]; exact World.ownsRow_nil _ _ _ _, HB.out⟩⟩
    simp [results, Try.f18, go_sem]
  rw [Bool.not_eq_false] at h1
  rw [h1]
  have HE := hid h1
  have HBY := hid (bytesP_yes h1)
  have HBL := hid (bodyP_len h1)
  have hL0 := (okP_of h1).l0
  have hL1 := (okP_of h1).l1
  have HP4 := hid (putL4 L hL0 hL1)
  have HBB := hid (bodyP_bd h1 HX.out.reads.bd)
  clear h1
  have LW1 := hid (show w.heap.size < w1.heap.size from HX.out.lt)
  have bA := Below.alloc1 w1 (.cells #[.slice none 0 0] 22)
  have HX1 := hid (HX.out.below bA (Nat.le_refl _))
  have RG := hid (heap_alloc_new w1 (.cells #[.slice none 0 0] 22))
  have ZG := hid (alloc_size w1 (.cells #[.slice none 0 0] 22))
  have HB1 := hid (HB.out.trans (bA.mono HB.out.size))
  obtain ⟨c0, c1⟩ := HX1.out.box
  clear HX HB bA
  gi_wp2_with fail
  clear c0 c1
  generalize w1.alloc (.cells #[.slice none 0 0] 22) = V at *
  refine ⟨trivial, ((callsIn_wide (n := _)).2 (impl_body L c HX1.out.reads hl HE.out)).mono ?_⟩
  rintro e w2 ⟨gb, cb, rfl, o, b⟩
  have HX2 := hid (HX1.out.below b (Nat.le_refl _))
  have RG2 := hid ((b.block w1.heap.size (by have := ZG.out; omega)).trans RG.out)
  have HB2 := hid (HB1.out.trans (b.mono HB1.out.size))
  have S2 := hid (show w1.heap.size + 1 ≤ gb ∧ gb < w2.heap.size from by have := o.lt gb rfl; have := ZG.out; omega)
  have hcb : 240 ≤ cb := by rcases o.2 with ⟨e, _⟩ | ⟨g', cap, cur, e, _, _, h1, _⟩; cases e; (obtain ⟨_, _, rfl⟩ := Value.slice.inj e; exact h1)
  have RB := hid (show Reads w2 (some ⟨gb, 0, none⟩) 240 (bodyP ss) by
    obtain ⟨x, y, e, r, _⟩ := Reads.own o HBB.out
    obtain ⟨rfl, _, _⟩ := Value.slice.inj e
    exact r)
  clear o b HX1 HB1 RG
  generalize bodyP ss = BB at *
  gi_wp2_with fail
  refine ⟨trivial, (chunk_in _ _ _ _ _).mono ?_⟩
  rintro e w3 ⟨rfl, e3⟩
  subst w3
  gi_wp2_with fail
  have bA := two w2 (.cells #[.slice (some ⟨gb, 0, none⟩) 240 cb] 22) (.cells #[.int .i64 60] 3)
  have HX3 := hid (HX2.out.below bA (Nat.le_refl _))
  have RG3 := hid ((bA.block w1.heap.size (by have := S2.out; omega)).trans RG2.out)
  have HB3 := hid (HB2.out.trans (bA.mono HB2.out.size))
  have RB3 := hid (RB.out.below bA (Nat.le_refl _))
  have bS := Boxed.new w2 22 (.slice (some ⟨gb, 0, none⟩) 240 cb)
  have bN := Boxed.new (w2.alloc (.cells #[.slice (some ⟨gb, 0, none⟩) 240 cb] 22)) 3 (.int .i64 60)
  simp only [World.size_alloc] at bN
  have ZZ : ((w2.alloc (.cells #[.slice (some ⟨gb, 0, none⟩) 240 cb] 22)).alloc (.cells #[.int .i64 60] 3)).heap.size = w2.heap.size + 2 := by simp
  clear HX2 RG2 HB2 RB bA
  refine wpIn_rangeFunc_ownH (F := Fence.wide) rfl (by omega) (gf := 82) (lb := #[.pointer (some ⟨w2.heap.size, 0, none⟩), .pointer (some ⟨w2.heap.size + 1, 0, none⟩)]) rfl trivial (enters_of Try.func82 (by kernel_rfl) rfl)
    (chunk_stops (9 - 1) (by omega) w2.heap.size (w2.heap.size + 1) (w2.heap.size + 2) w1.heap.size gb cb hcb ((w2.alloc (.cells #[.slice (some ⟨gb, 0, none⟩) 240 cb] 22)).alloc (.cells #[.int .i64 60] 3)) (by simp; omega) (by simp) (by omega) (by omega) (by have := S2.out; omega) (by have := S2.out; omega) (bS.alloc _).cell bN.cell) (fun h k => h.trans k) (BX.putObj (by rw [ZZ]; exact Nat.le_refl _)) (Below.refl _ _) (fun _ => rfl)
    (fun pre W => ((∃ a5 c5, W.cell? ⟨w1.heap.size, 0, none⟩ = some (.slice a5 (64 * pre.length) c5) ∧ W.frozen? ⟨w1.heap.size, 0, none⟩ = false ∧ W.ownsRow (w2.heap.size + 2) 5 1 (.slice a5 (64 * pre.length) c5) (64 * pre.length) (bys (secsX L BB pre))) ∧ BoxP W w.heap.size L a n c ∧ Reads W (some ⟨gb, 0, none⟩) 240 BB) ∧ Below w.heap.size w W)
    (fun _ _ _ => False)
    (OwnFrom.and (Own.from (fun s A B row hs hg hr => ⟨by obtain ⟨⟨a5, c5, h1, h2, h3⟩, _⟩ := hs; exact ⟨a5, c5, cell_kept h1 hg hr, (frozen_kept h1 hg hr).trans h2, own_keptK h3 hg hr⟩, ⟨cell_kept hs.2.1.c0 hg hr, cell_kept hs.2.1.c1 hg hr⟩, reads_keptK hs.2.2 hg hr⟩) _) (ownFrom_below (Nat.le_refl _) (by have := HB3.out.size; exact this)))
    (fun c s A B row hs => False.elim hs)
    ⟨⟨⟨none, 0, by rw [cell_of_row _ _ _ _ _ _ RG3.out]; rfl, frozen_of_row _ _ _ _ _ RG3.out, World.ownsRow_nil _ _ _ _⟩, HX3.out.box, RB3.out⟩, HB3.out⟩
    (fun x a' W => a' = { tmps := #[.agg #[.int .i64 L, .slice a n c], .pointer (some ⟨w.heap.size, 0, none⟩), .slice none 0 0, .pointer (some ⟨w1.heap.size, 0, none⟩), (.slice (some ⟨gb, 60 * min x 3, none⟩) 60 60), .agg #[.int .i64 L, .slice a n c], .bool true, .bool false, .agg #[.int .i64 L, .slice a n c], .slice (some ⟨gb, 0, none⟩) 240 cb, (.func (.func 82) #[] #[.pointer (some ⟨w2.heap.size, 0, none⟩), .pointer (some ⟨w2.heap.size + 1, 0, none⟩)]), (.slice (some ⟨gb, 60 * min x 3, none⟩) 60 60), undef, undef, undef, undef, undef, undef, undef, undef], defers := [] })
    (fun x a' => Own.from (fun s A B row hs hg hr => hs) _)
    ?assign ?body ?done ?stop
  case assign =>
    rintro l pre x W K hI hK
    unfold enC
    generalize 60 * min x 3 = y at *
    gi_wp2
    exact hK _ _ (KeepsFrom.refl _ _) (BX.refl _ _ _) hI rfl
  case body =>
    rintro l pre x a' W hl1 hlr ⟨⟨⟨a5, c5, g1, g2, g3⟩, hbx, hrd⟩, hBw⟩ rfl hlt
    obtain ⟨y, hy⟩ : ∃ y, 60 * min x 3 = y := ⟨_, rfl⟩
    have hy180 : y + 60 ≤ 240 := by omega
    have HY := hid hy
    rw [hy]
    obtain ⟨N5, hN5⟩ : ∃ N5, 64 * pre.length = N5 := ⟨_, rfl⟩
    have HN5 := hid hN5
    rw [hN5] at g1 g3
    have hN192 : N5 ≤ 192 := by omega
    have HO := hid g3
    have HR := hid hrd
    have HBW := hid hBw
    have HBX := hid hbx
    have HC := hid (And.intro g1 g2)
    have LG := hid (show w1.heap.size < W.heap.size from World.block_lt_of_cell? W _ g1)
    have hW2 := hid (show w2.heap.size + 2 ≤ W.heap.size by
      obtain ⟨r, hr⟩ := hlr
      have h5 := (Array.getElem?_eq_some_iff.1 hr).1
      have h6 : w2.heap.size + 2 ≤ l := by rw [← ZZ]; exact hl1
      omega)
    have HK' := hid (show ∀ X, Below W.heap.size W X → X.cell? ⟨w1.heap.size, 0, none⟩ = some (.slice a5 N5 c5) ∧ X.frozen? ⟨w1.heap.size, 0, none⟩ = false ∧ X.cell? ⟨w.heap.size, 0, none⟩ = some (.int .i64 L) ∧ X.cell? ⟨w.heap.size, 1, none⟩ = some (.slice a n c) from fun X bb => ⟨(bb.cell (p := ⟨w1.heap.size, 0, none⟩) LG.out).trans g1, (bb.frozen (p := ⟨w1.heap.size, 0, none⟩) LG.out).trans g2, (HBX.out.below bb (Nat.le_refl _)).c0, (HBX.out.below bb (Nat.le_refl _)).c1⟩)
    clear hy hN5 g3 hrd hBw hbx g1 g2 hlr
    gi_wp2
    refine region_KR 7 (fun X => X.cell? ⟨w1.heap.size, 0, none⟩ = some (.slice a5 N5 c5) ∧ X.frozen? ⟨w1.heap.size, 0, none⟩ = false ∧ X.cell? ⟨w.heap.size, 0, none⟩ = some (.int .i64 L) ∧ X.cell? ⟨w.heap.size, 1, none⟩ = some (.slice a n c)) (by kernel_rfl) (by kernel_rfl) (fun ⟨_, _, h⟩ => h) ?_ (fun hHeld => ?_)
    · exact HK'.out _ ((Still.drew W).below _)
    refine anyK_take (i := 0) (v := ?v1) rfl (by kernel_rfl) (by kernel_rfl) (by kernel_rfl) (by kernel_rfl) (fun _ _ _ h => h) (by rfl) hHeld ?hy1 (some 12) (by rfl) ?rest1
    case hy1 => (intro W hSw; obtain ⟨r0, r1, r2, r3⟩ := hSw; go_simp; (try with_reducible rfl))
    try simp only [Act.put]
    try simp only [List.setIfInBounds_toArray]
    try simp only [List.set_cons_succ, List.set_cons_zero]
    refine anyK_take (i := 1) (v := ?v2) rfl (by kernel_rfl) (by kernel_rfl) (by kernel_rfl) (by kernel_rfl) (fun _ _ _ h => h) (by rfl) hHeld ?hy2 (some 13) (by rfl) ?rest2
    case hy2 => (intro W hSw; obtain ⟨r0, r1, r2, r3⟩ := hSw; go_simp; (try with_reducible rfl))
    try simp only [Act.put]
    try simp only [List.setIfInBounds_toArray]
    try simp only [List.set_cons_succ, List.set_cons_zero]
    refine anyK_take (i := 2) (v := ?v3) rfl (by kernel_rfl) (by kernel_rfl) (by kernel_rfl) (by kernel_rfl) (fun _ _ _ h => h) (by rfl) hHeld ?hy3 (some 14) (by rfl) ?rest3
    case hy3 => (intro W hSw; obtain ⟨r0, r1, r2, r3⟩ := hSw; go_simp; (try with_reducible rfl))
    try simp only [Act.put]
    try simp only [List.setIfInBounds_toArray]
    try simp only [List.set_cons_succ, List.set_cons_zero]
    refine anyK_take (i := 4) (v := ?v4) rfl (by kernel_rfl) (by kernel_rfl) (by kernel_rfl) (by kernel_rfl) (fun _ _ _ h => h) (by rfl) hHeld ?hy4 (some 16) (by rfl) ?rest4
    case hy4 => (intro W hSw; obtain ⟨r0, r1, r2, r3⟩ := hSw; go_simp; (try with_reducible rfl))
    try simp only [Act.put]
    try simp only [List.setIfInBounds_toArray]
    try simp only [List.set_cons_succ, List.set_cons_zero]
    refine anyK_step (i := 3) (by kernel_rfl) rfl (fun KP hK => ?_)
    go_simp
    refine (impl_PutNum L 4 W.drew (by omega)).mono ?_
    rintro e u1 ⟨v5, rfl, o5, b5⟩
    rw [HP4.out.1] at o5
    obtain ⟨a6, c6, rfl⟩ := own_sl o5
    have B1 := hid (((Still.drew W).below W.heap.size).trans (b5.mono (Nat.le_refl _)))
    have HP := hid o5
    clear o5 b5
    go_wp2_with fail
    refine hK.out _ _ ?_ (fun hH2 => ?_)
    · exact HK'.out _ B1.out
    clear hK KP hHeld
    have hHeld := hH2
    clear hH2
    try simp only [Act.put]
    try simp only [List.setIfInBounds_toArray]
    try simp only [List.set_cons_succ, List.set_cons_zero]
    refine anyK_step (i := 5) (by kernel_rfl) rfl (fun KP hK => ?_)
    go_simp
    have bC := Below.alloc1 u1 (.cells #[.slice a5 N5 c5, .slice a6 4 c6, .slice (some ⟨gb, y, none⟩) 60 60] 22)
    have B2 := hid (B1.out.trans (bC.mono B1.out.size))
    have R3 := hid (reads_three (heap_alloc_new u1 (.cells #[.slice a5 N5 c5, .slice a6 4 c6, .slice (some ⟨gb, y, none⟩) 60 60] 22)) ((row_of (owns_below B1.out (Nat.le_refl _) HO.out) (bdZ.mem (fun z hz => secsX_mem HBB.out hz)) (by omega)).below bC (Nat.le_refl _)) ((row_of HP.out (show bdZ (putL L 4) from putL_bd L 4) (by omega)).below bC (Nat.le_refl _)) (z3 := (BB.drop y).take 60) (by
      have r := reads_cut (HR.out.below B2.out (Nat.le_refl _)) y 60 hy180
      rw [Nat.zero_add] at r
      have hl60 := r.len
      exact ⟨_, _, by rw [hl60], by rw [hl60]; exact r, fun e => (by cases e), by rw [hl60]; unfold maxLen; omega⟩))
    clear bC
    refine hK.out _ _ ?_ (fun hH2 => ?_)
    · exact HK'.out _ B2.out
    clear hK KP hHeld
    have hHeld := hH2
    clear hH2
    try simp only [Act.put]
    try simp only [List.setIfInBounds_toArray]
    try simp only [List.set_cons_succ, List.set_cons_zero]
    generalize u1.alloc (.cells #[.slice a5 N5 c5, .slice a6 4 c6, .slice (some ⟨gb, y, none⟩) 60 60] 22) = u2 at *
    refine anyK_step (i := 6) (by kernel_rfl) rfl (fun KP hK => ?_)
    go_simp
    have e4 : tot [secsX L BB pre, putL L 4, (BB.drop y).take 60] = N5 + 64 := by
      show (secsX L BB pre).length + ((putL L 4).length + (((BB.drop y).take 60).length + 0)) = N5 + 64
      have h1 : (secsX L BB pre).length = N5 := by have := HO.out.1; simpa [bys] using this
      rw [h1, HP4.out.1, cut_len (by rw [HBL.out]; exact hy180)]
    have e5 : [secsX L BB pre, putL L 4, (BB.drop y).take 60].flatten = secsX L BB (pre ++ [x]) := by rw [secsX_snoc, HY.out]; simp
    refine (impl_joined (m := 3) 3 R3.out rfl (by omega) (by rw [e4]; omega)).mono ?_
    rintro e u3 ⟨v7, rfl, o7, b7⟩
    rw [e4, e5] at o7
    obtain ⟨a7, c7, rfl⟩ := own_sl o7
    have B3 := hid (B2.out.trans (b7.mono B2.out.size))
    have O7 := hid (owns_lower (base' := w2.heap.size + 2) o7 (by have := B2.out.size; have := hW2.out; omega))
    clear o7 b7 e4 e5 R3
    go_wp2_with fail
    refine hK.out _ _ ?_ (fun hH2 => ?_)
    · exact HK'.out _ B3.out
    clear hK KP hHeld
    have hHeld := hH2
    clear hH2
    try simp only [Act.put]
    try simp only [List.setIfInBounds_toArray]
    try simp only [List.set_cons_succ, List.set_cons_zero]
    refine anyK_last (by kernel_rfl) rfl (fun KP hK => ?_)
    go_simp
    refine hK.out _ _ ?_
    clear hK KP hHeld
    refine anyK_done (by kernel_rfl) ?_ _
    have gS := grown_set7 u3 w1.heap.size 0 (.slice a7 (N5 + 64) c7)
    have hG3 : u3.cell? ⟨w1.heap.size, 0, none⟩ = some (.slice a5 N5 c5) := (HK'.out _ B3.out).1
    have hLo := O7.out.lt
    refine ⟨((KeepsOthers.below B3.out).trans (KeepsOthers.setCell _ _ _)).from _, (BX.below (B3.out.mono hW2.out)).trans (BX.setCell _ _), ⟨⟨a7, c7, ?_, ?_, ?_⟩, ?_, ?_⟩, ?_⟩
    · rw [show 64 * (pre ++ [x]).length = N5 + 64 by have := HN5.out; simp; omega]
      exact World.cell?_setCell_same' _ _ _ (by rw [hG3]; rfl)
    · have hf := (HK'.out _ B3.out).2.1
      simpa [go_sem] using hf
    · rw [show 64 * (pre ++ [x]).length = N5 + 64 by have := HN5.out; simp; omega]
      exact O7.out.kept gS (.inr (fun e => by have := (hLo _ e).1; have := S2.out; omega))
    · exact (HBX.out.below B3.out (Nat.le_refl _)).agree (heap_set_ne _ _ _ _ _ (by have := LW1.out; omega))
    · exact (HR.out.below B3.out (Nat.le_refl _)).other gS (fun q e => by cases e; exact fun e => by have := S2.out; simp at e; omega)
    · exact (HBW.out.trans (B3.out.mono HBW.out.size)).setCell (p := ⟨w1.heap.size, 0, none⟩) (by have := LW1.out; show w.heap.size ≤ w1.heap.size; omega) _
  case done =>
    rintro Dd ys W hD rfl ⟨⟨⟨a5, c5, g1, g2, g3⟩, hbx, hrd⟩, hBw⟩ hK
    rw [up_len] at g1 g3
    rw [secsX_up] at g3
    have HO := hid g3
    have HKK := hid hK
    have HBW := hid hBw
    clear g3 hK hBw hbx hrd g2
    gi_wp2
    refine ⟨by simp, .inl ⟨_, _, rfl, run_takeDeferred HKK.out, ?_⟩⟩
    refine ⟨.slice a5 256 c5, ?_, ⟨_, rfl, ?_, HBW.out.trans (belowK_b (w := w) (Nat.le_refl _) _ Dd _ _ (by have h7 : w2.heap.size + 2 ≤ Dd := (by rw [← ZZ]; exact hD); have := LW1.out; have := S2.out; omega) HKK.out rfl rfl)⟩⟩
    · simp [results, Try.f18, go_sem]
    · rw [HBY.out, secsP_len HP4.out.1 HBL.out 4 (by omega)]
      exact owns_lower (own_keptK HO.out (grownBy_putObj' _ Dd (.deferred none)) (fun r e => by cases e; exact ⟨_, HKK.out, rfl⟩)) (by have := LW1.out; have := S2.out; omega)
  case stop =>
    rintro Dd c' pre W hD _ hI hK
    exact False.elim hI
end Go.Proofs.Ytdfieopdbpklnaa
