/- The contract of the program's (Heap).with: a heap copied, one page laid in. Conditions: the heap is one; the page lies within or just behind it. -/
import Derived.Test.YtebhipicfgnajaaGreatMgc
import Derived.Test.YtebhipicfgnajaaGreatIi10
namespace Go.Proofs.YtebhipicfgnajaaGreat
open Go.RowKit
set_option maxRecDepth 100000

/-- A heap with a page laid in, within it or just behind. -/
def padH (ps : List Pg) (q : Nat) : List Pg := ps ++ List.replicate (q + 1 - ps.length) pg0
def withH (ps : List Pg) (q : Nat) (p : Pg) : List Pg := (padH ps q).set q p
theorem padH_len (ps : List Pg) (q : Nat) : (padH ps q).length = max ps.length (q + 1) := by unfold padH; simp; omega
theorem withH_len (ps : List Pg) (q : Nat) (p : Pg) : (withH ps q p).length = max ps.length (q + 1) := by unfold withH; rw [List.length_set, padH_len]
theorem getD_rep {α : Type} (n i : Nat) (d : α) : (List.replicate n d).getD i d = d := by
  rw [List.getD_eq_getElem?_getD, List.getElem?_replicate]
  split <;> rfl
theorem OwnG.zeros {w : World} {lo hi g N : Nat} (h : w.ownsRow lo 97 2 (.slice (some ⟨g, 0, none⟩) N N) N (cellsN (List.replicate N sn0) (List.replicate N nilS))) (hg : g < hi) : OwnG w lo hi (.slice (some ⟨g, 0, none⟩) N N) (List.replicate N pg0) := by
  have hlg := (h.lt g rfl).1
  have e : ∀ i, i < N → (List.replicate N (hi, hi)).getD i (0, 0) = (hi, hi) := fun i hi' => by rw [List.getD_eq_getElem?_getD, List.getElem?_replicate, if_pos hi']; rfl
  refine ⟨⟨List.replicate N nilS, List.replicate N (hi, hi), ?_, ⟨by simp, by simp, fun i hi' => ?_, fun i hi' => ?_, fun i j hi' hj _ => ?_⟩, fun i hi' g' hg' => ?_⟩, fun g' hg' => ?_⟩
  · rw [List.length_replicate, fsts_rep]; exact h
  · rw [List.map_replicate, List.length_replicate] at hi'
    rw [e i hi', getD_rep, List.map_replicate, show pg0.2 = [] from rfl, getD_rep]
    exact OwnP.nil _ _ _
  · rw [List.map_replicate, List.length_replicate] at hi'
    rw [e i hi']; simp only; omega
  · rw [List.map_replicate, List.length_replicate] at hi' hj
    rw [e i hi', e j hj]; simp only; omega
  · rw [List.length_replicate] at hi'
    obtain rfl : g = g' := by simpa [Value.ownBlock] using hg'
    rw [e i hi']; exact .inl hg
  · obtain rfl : g = g' := by simpa [Value.ownBlock] using hg'
    exact hg

theorem OwnG.aside {w w' : World} {lo hi : Nat} {v : Value} {ps : List Pg} (h : OwnG w lo hi v ps) {b : Nat} {e : TypeId} {s n : Nat} {v' : Value} {xs : List Value} (o : w.ownsRow b e s v' n xs) (hp : (97 : TypeId) ≠ e) (h22 : (22 : TypeId) ≠ e) (h5 : (5 : TypeId) ≠ e) (hg : w.grownBy w' v'.ownBlock) : OwnG w' lo hi v ps := by
  obtain ⟨ys, bs, ow, hB, hq⟩ := h.own
  exact ⟨⟨ys, bs, ow.kept hg (owns_ne ow o hp), hB.aside o h22 h5 hg, hq⟩, h.top⟩
theorem grown_setRow10 (w : World) (g : Nat) (cs : Array Value) : w.grownBy (w.setRow g cs) (some g) :=
  ⟨rfl, rfl, rfl, by simp, fun k _ hk => setRow_other _ _ _ _ (fun e => hk (by rw [e]))⟩

set_option maxHeartbeats 12800000 in
theorem impl_Hwith {ad : Option Addr} {n : Nat} (cap : Nat) {ps : List Pg} {q : Nat} {RL : Int} {RS : List (List Int)} {a' : Option Addr} {m c' lo : Nat} {w : World} (h : ReadsG w ad ps) (hl : ps.length = n) (hok : okH ps = true) (hq : q ≤ n) (hlo : lo ≤ w.heap.size) (hp : OwnP w lo w.heap.size (.slice a' m c') RS) :
    Calls Tryz.prog 146 #[.agg #[.slice ad n cap], .int .i64 (q : Int), .agg #[.int .i64 RL, .slice a' m c']] w fun e w' => ∃ v c, e = .returned (.agg #[.slice v (withH ps q (RL, RS)).length c]) ∧ OwnG w' lo w'.heap.size (.slice v (withH ps q (RL, RS)).length c) (withH ps q (RL, RS)) ∧ Below w.heap.size w w' := by
  obtain ⟨i0, hi, hz0, hz1, hz2⟩ := info_parts Tryz.infoPg
  have z1 := alloc_size w (.cells #[.slice ad n cap] 26)
  have z2 := alloc_size (w.alloc (.cells #[.slice ad n cap] 26)) (.cells #[.int .i64 RL, .slice a' m c'] 97)
  have z3 := alloc_size ((w.alloc (.cells #[.slice ad n cap] 26)).alloc (.cells #[.int .i64 RL, .slice a' m c'] 97)) (.cells #[.slice none 0 0] 26)
  have R0 : (((w.alloc (.cells #[.slice ad n cap] 26)).alloc (.cells #[.int .i64 RL, .slice a' m c'] 97)).alloc (.cells #[.slice none 0 0] 26)).heap[w.heap.size]? = some (.cells #[.slice ad n cap] 26) := by
    rw [alloc_old _ _ _ (by omega), alloc_old _ _ _ (by omega)]; exact heap_alloc_new _ _
  have R1 : (((w.alloc (.cells #[.slice ad n cap] 26)).alloc (.cells #[.int .i64 RL, .slice a' m c'] 97)).alloc (.cells #[.slice none 0 0] 26)).heap[w.heap.size + 1]? = some (.cells #[.int .i64 RL, .slice a' m c'] 97) := by
    rw [alloc_old _ _ _ (by omega)]
    have := heap_alloc_new (w.alloc (.cells #[.slice ad n cap] 26)) (.cells #[.int .i64 RL, .slice a' m c'] 97)
    rwa [z1] at this
  have R2 : (((w.alloc (.cells #[.slice ad n cap] 26)).alloc (.cells #[.int .i64 RL, .slice a' m c'] 97)).alloc (.cells #[.slice none 0 0] 26)).heap[w.heap.size + 1 + 1]? = some (.cells #[.slice none 0 0] 26) := by
    have := heap_alloc_new ((w.alloc (.cells #[.slice ad n cap] 26)).alloc (.cells #[.int .i64 RL, .slice a' m c'] 97)) (.cells #[.slice none 0 0] 26)
    rwa [z2, z1] at this
  have BW : Below w.heap.size w (((w.alloc (.cells #[.slice ad n cap] 26)).alloc (.cells #[.int .i64 RL, .slice a' m c'] 97)).alloc (.cells #[.slice none 0 0] 26)) := (((Below.refl _ w).alloc (Nat.le_refl _) _).alloc (by omega) _).alloc (by omega) _
  have HZ := hid (show (((w.alloc (.cells #[.slice ad n cap] 26)).alloc (.cells #[.int .i64 RL, .slice a' m c'] 97)).alloc (.cells #[.slice none 0 0] 26)).heap.size = w.heap.size + 3 by omega)
  have HX0 := hid R0
  have HX1 := hid R1
  have HX2 := hid R2
  have HBW := hid BW
  have HH := hid h
  have HO := hid hok
  have HP := hid hp
  have hn16 : n ≤ 16 := by have := (okH_of hok).1; omega
  have c0 : (((w.alloc (.cells #[.slice ad n cap] 26)).alloc (.cells #[.int .i64 RL, .slice a' m c'] 97)).alloc (.cells #[.slice none 0 0] 26)).cell? ⟨w.heap.size, 0, none⟩ = some (.slice ad n cap) := cell_of_row _ _ 0 _ _ _ R0
  clear R0 R1 R2 BW z1 z2 z3 h hok hp
  by_cases hm : (n : Int) < (q : Int) + 1
  · have hdum : True := trivial
    clear hdum
    have HNN := hid (show max ps.length (q + 1) = (q + 1) by rw [hl]; omega)
    have hN17 : (q + 1) ≤ 17 := by omega
    have hnN : n ≤ (q + 1) := by omega
    have hqN : q < (q + 1) := by omega
    have HPAD := hid (show padH ps q = ps ++ List.replicate ((q + 1) - n) pg0 by unfold padH; rw [hl, show q + 1 - n = (q + 1) - n by omega])
    go_enter Tryz.func146, Tryz.ntmps146
    go_wp2_with (at_make; refine wpList_make_full _ rfl _ _ 24 rfl (w.heap.size + 3) 97 i0 (.agg #[.int .i64 0, .slice none 0 0]) 2 Tryz.underlying24 hi hz0 hz1 _ _ _ _ ((q + 1)) rfl rfl (by omega) (by omega) ?b2 ?b3 ?b4 ?_)
    case b2 => first | omega | (rw [hz2]; omega)
    case b3 => unfold maxLen; omega
    try (case b4 => have := HZ.out; omega)
    clear c0
    generalize ((w.alloc (.cells #[.slice ad n cap] 26)).alloc (.cells #[.int .i64 RL, .slice a' m c'] 97)).alloc (.cells #[.slice none 0 0] 26) = W0 at *
    intro w0 hown0 hgrow0
    have b := (Below.refl W0.heap.size W0).grown hgrow0 (Nat.le_refl _) (fun k h => by cases h)
    rw [made2n, ← nilS, ← zeroN9] at hown0
    have hsz0 := (hown0.lt _ rfl).2
    have HOG := hid (show OwnG w0 (w.heap.size + 3) w0.heap.size (.slice (some ⟨w.heap.size + 1 + 1 + 1, 0, none⟩) ((q + 1)) ((q + 1))) (List.replicate ((q + 1)) pg0) from OwnG.zeros hown0 hsz0)
    have Q0 := hid ((b.block _ (by have := HZ.out; omega)).trans HX0.out)
    have Q1 := hid ((b.block _ (by have := HZ.out; omega)).trans HX1.out)
    have Q2 := hid ((b.block _ (by have := HZ.out; omega)).trans HX2.out)
    have HB1 := hid (HBW.out.trans (b.mono HBW.out.size))
    have HS1 := hid (show w.heap.size + 3 ≤ w0.heap.size by have := HZ.out; have := b.size; omega)
    have c0 : w0.cell? ⟨w.heap.size, 0, none⟩ = some (.slice ad n cap) := cell_of_row _ _ 0 _ _ _ Q0.out
    clear hown0 hgrow0 b hsz0
    go_wp2_with fail
    clear c0
    go_loopw [20] (fun i wr => ∃ (k : Nat), k ≤ n ∧ i = .int .i64 k ∧ Hid (OwnG wr (w.heap.size + 3) wr.heap.size (.slice (some ⟨w.heap.size + 1 + 1 + 1, 0, none⟩) ((q + 1)) ((q + 1))) (ps.take k ++ List.replicate ((q + 1) - k) pg0)) ∧ Hid (wr.heap[w.heap.size + 1]? = some (.cells #[.int .i64 RL, .slice a' m c'] 97)) ∧ Hid (wr.heap[w.heap.size + 1 + 1]? = some (.cells #[.slice none 0 0] 26)) ∧ Hid (Below w.heap.size w wr) ∧ Hid (w.heap.size + 3 ≤ wr.heap.size)) (fun i _ => n - (intOf i).toNat)
    case atStart => exact ⟨0, Nat.zero_le _, rfl, hid (by simpa using HOG.out), Q1, Q2, HB1, HS1⟩
    case round =>
      clear HOG Q0 Q1 Q2 HB1 HS1
      obtain ⟨k, hk, rfl, hown, Q1, Q2, hnx, hsz⟩ := hrel
      by_cases hlt : k < n
      · have hlt' : (k : Int) < (n : Int) := by omega
        have hk0 : (0 : Int) ≤ (k : Int) := by omega
        have hkN' : (k : Int) < ((((q + 1)) : Nat) : Int) := by omega
        obtain ⟨b, off, ap, cp, rfl, hca0, hcx0, hr0, hmx⟩ := HH.out.at (k := k) (by omega)
        have hpg := okPg_of ((okH_of HO.out).2 k (by omega))
        have h16 := (okP_of hpg.1).n
        have hz92 := (okP_of hpg.1).z
        have hbl := World.block_lt_of_cell? w _ hca0
        have hca := (hnx.out.cell (p := ⟨b, off + k * 2, none⟩) hbl).trans hca0
        have hcx := (hnx.out.cell (p := ⟨b, off + k * 2 + 1, none⟩) hbl).trans hcx0
        have HT := hid (take_snocG ps k (by omega))
        have hrp := hr0.below hnx.out (Nat.le_refl _)
        have HLK := hid (show (ps.take k).length = k by rw [List.length_take]; omega)
        generalize ps.getD k pg0 = p at *
        obtain ⟨A, ss⟩ := p
        obtain ⟨mm, hm⟩ : ∃ m, ss.length = m := ⟨_, rfl⟩
        dsimp only at hcx hca hrp hz92 h16
        rw [hm] at hcx h16
        have HM := hid hm
        have HZ92 := hid hz92
        have bX := Below.alloc1 wr (.cells #[.int .i64 A, .slice ap mm cp] 97)
        have HRP := hid (hrp.below bX (Nat.le_refl _))
        have BX := hid bX
        clear hca0 hcx0 hr0 hmx hm hbl hpg hz92 hrp bX
        go_wp2_with fail
        refine (impl_copied A cp HRP.out.rd HM.out (by omega) (fun i => by have := HZ92.out i; omega)).mono ?_
        rintro e w1 ⟨a1, c1, rfl, op, b1⟩
        have b2 := BX.out.trans (b1.mono BX.out.size)
        have hG1 := hown.out.below b2 (Nat.le_refl _)
        obtain ⟨ys, bs, ow, hBd, hqq⟩ := hG1.own
        have hlen : (ps.take k ++ List.replicate ((q + 1) - k) pg0).length = (q + 1) := by rw [List.length_append, HLK.out, List.length_replicate]; omega
        rw [hlen] at ow
        have hyl : ys.length = (fsts (ps.take k ++ List.replicate ((q + 1) - k) pg0)).length := by rw [hBd.len, fsts_length]; simp
        have hcl : (cellsN (fsts (ps.take k ++ List.replicate ((q + 1) - k) pg0)) ys).length = ((q + 1)) * 2 := ow.1
        have hcy : ∃ v, w1.cell? ⟨w.heap.size + 1 + 1 + 1, k * 2, none⟩ = some v := ⟨_, (ow.cellAt (k * 2) (by omega)).trans (List.getElem?_eq_getElem (by omega))⟩
        have hcz : ∃ v, w1.cell? ⟨w.heap.size + 1 + 1 + 1, k * 2 + 1, none⟩ = some v := ⟨_, (ow.cellAt (k * 2 + 1) (by omega)).trans (List.getElem?_eq_getElem (by omega))⟩
        obtain ⟨v1, hcy⟩ := hcy
        obtain ⟨v2, hcz⟩ := hcz
        have hfr : w1.frozen? ⟨w.heap.size + 1 + 1 + 1, k * 2, none⟩ = false := ow.frozenAt (k * 2)
        have hfz : w1.frozen? ⟨w.heap.size + 1 + 1 + 1, k * 2 + 1, none⟩ = false := ow.frozenAt (k * 2 + 1)
        have HG2 := hid (OwnG.swap (A := A) (lo' := w.heap.size + 3) (hi' := w1.heap.size) hG1 hlen (i := k) (by omega) op (.inr BX.out.size) (Nat.le_refl _) (by have := BX.out.size; have := hsz.out; omega) b2.size (Nat.le_refl _))
        rw [set_rep _ k ((q + 1)) pg0 (A, ss) HLK.out (by omega), ← HT.out] at HG2
        have V1 := hid ((heap_set_ne _ (w.heap.size + 1 + 1 + 1) (k * 2 + 1) (w.heap.size + 1) (.slice a1 mm c1) (by omega)).trans ((heap_set_ne w1 (w.heap.size + 1 + 1 + 1) (k * 2) (w.heap.size + 1) (.int .i64 A) (by omega)).trans ((b2.block _ (by have := hsz.out; omega)).trans Q1.out)))
        have V2 := hid ((heap_set_ne _ (w.heap.size + 1 + 1 + 1) (k * 2 + 1) (w.heap.size + 1 + 1) (.slice a1 mm c1) (by omega)).trans ((heap_set_ne w1 (w.heap.size + 1 + 1 + 1) (k * 2) (w.heap.size + 1 + 1) (.int .i64 A) (by omega)).trans ((b2.block _ (by have := hsz.out; omega)).trans Q2.out)))
        have HN2 := hid (((hnx.out.trans (b2.mono hnx.out.size)).setCell (p := ⟨w.heap.size + 1 + 1 + 1, k * 2, none⟩) (by show w.heap.size ≤ w.heap.size + 1 + 1 + 1; omega) (.int .i64 A)).setCell (p := ⟨w.heap.size + 1 + 1 + 1, k * 2 + 1, none⟩) (by show w.heap.size ≤ w.heap.size + 1 + 1 + 1; omega) (.slice a1 mm c1))
        have HS2 := hid (show w.heap.size + 3 ≤ w1.heap.size by have := hsz.out; have := b2.size; omega)
        clear op b1 b2 hG1 ow hBd hqq hlen hyl hcl hown Q1 Q2 hnx hsz hca hcx
        go_wp2_with fail
        go_roundw
        case rel => exact ⟨k + 1, by omega, by go_num, hid (by simpa [set_size] using HG2.out), V1, V2, HN2, hid (by simpa [set_size] using HS2.out)⟩
        case measure => simp [intOf]; omega
      · have hlt' : ¬ (k : Int) < (n : Int) := by omega
        obtain rfl : n = k := by omega
        have hqN' : (q : Int) < ((((q + 1)) : Nat) : Int) := by omega
        have hq0 : (0 : Int) ≤ (q : Int) := by omega
        have hG1 : OwnG wr (w.heap.size + 3) wr.heap.size (.slice (some ⟨w.heap.size + 1 + 1 + 1, 0, none⟩) ((q + 1)) ((q + 1))) (padH ps q) := by have := hown.out; rw [List.take_of_length_le (by omega)] at this; rw [HPAD.out]; exact this
        have hlen : (padH ps q).length = (q + 1) := by rw [padH_len, HNN.out]
        obtain ⟨ys, bs, ow, hBd, hqq⟩ := hG1.own
        rw [hlen] at ow
        have hcl : (cellsN (fsts (padH ps q)) ys).length = ((q + 1)) * 2 := ow.1
        have hcy : ∃ v, wr.cell? ⟨w.heap.size + 1 + 1 + 1, q * 2, none⟩ = some v := ⟨_, (ow.cellAt (q * 2) (by omega)).trans (List.getElem?_eq_getElem (by omega))⟩
        have hcz : ∃ v, wr.cell? ⟨w.heap.size + 1 + 1 + 1, q * 2 + 1, none⟩ = some v := ⟨_, (ow.cellAt (q * 2 + 1) (by omega)).trans (List.getElem?_eq_getElem (by omega))⟩
        obtain ⟨v1, hcy⟩ := hcy
        obtain ⟨v2, hcz⟩ := hcz
        have hfr : wr.frozen? ⟨w.heap.size + 1 + 1 + 1, q * 2, none⟩ = false := ow.frozenAt (q * 2)
        have hfz : wr.frozen? ⟨w.heap.size + 1 + 1 + 1, q * 2 + 1, none⟩ = false := ow.frozenAt (q * 2 + 1)
        have HG2 := hid (OwnG.swap (A := RL) (lo' := lo) (hi' := wr.heap.size) hG1 hlen (i := q) (by omega) (HP.out.below hnx.out (Nat.le_refl _)) (.inl (by omega)) (by omega) (Nat.le_refl _) (Nat.le_refl _) (by have := hsz.out; omega))
        have q0 : wr.cell? ⟨w.heap.size + 1, 0, none⟩ = some (.int .i64 RL) := cell_of_row _ _ 0 _ _ _ Q1.out
        have q1 : wr.cell? ⟨w.heap.size + 1, 1, none⟩ = some (.slice a' m c') := cell_of_row _ _ 1 _ _ _ Q1.out
        have V2 := hid ((heap_set_ne _ (w.heap.size + 1 + 1 + 1) (q * 2 + 1) (w.heap.size + 1 + 1) (.slice a' m c') (by omega)).trans ((heap_set_ne wr (w.heap.size + 1 + 1 + 1) (q * 2) (w.heap.size + 1 + 1) (.int .i64 RL) (by omega)).trans Q2.out))
        have HN2 := hid ((hnx.out.setCell (p := ⟨w.heap.size + 1 + 1 + 1, q * 2, none⟩) (by show w.heap.size ≤ w.heap.size + 1 + 1 + 1; omega) (.int .i64 RL)).setCell (p := ⟨w.heap.size + 1 + 1 + 1, q * 2 + 1, none⟩) (by show w.heap.size ≤ w.heap.size + 1 + 1 + 1; omega) (.slice a' m c'))
        have HWL := hid (show (withH ps q (RL, RS)).length = (q + 1) by rw [withH_len, HNN.out])
        have HSZ := hid hsz.out
        clear ow hBd hqq hlen hcl hown Q1 Q2 hnx hG1 hsz
        go_wp2_with (refine wpList_store_row rfl 26 (.tmp 6) (.tmp 36) rfl (w.heap.size + 1 + 1) #[.slice (some ⟨w.heap.size + 1 + 1 + 1, 0, none⟩) ((q + 1)) ((q + 1))] rfl rfl 26 _ V2.out ?s1 ?s2 ?s3 ?_)
        case s1 => simpa using size_hp
        case s3 => simp [Value.oneCell']
        refine bodyPost_ret (results_cell_row Tryz.results146 _ _ (w.heap.size + 1 + 1) 26 #[.slice (some ⟨w.heap.size + 1 + 1 + 1, 0, none⟩) ((q + 1)) ((q + 1))] (0, 0) _ rfl (setRow_heap _ _ _ _ _ _ V2.out) Tryz.underlying26 rfl size_hp) rfl ⟨some ⟨w.heap.size + 1 + 1 + 1, 0, none⟩, (q + 1), by rw [HWL.out], ?_, below_setRow HN2.out (by omega) _⟩
        rw [HWL.out]
        have hoB : ((wr.setCell ⟨w.heap.size + 1 + 1 + 1, q * 2, none⟩ (.int .i64 RL)).setCell ⟨w.heap.size + 1 + 1 + 1, q * 2 + 1, none⟩ (.slice a' m c')).ownsRow 0 26 1 (.slice (some ⟨w.heap.size + 1 + 1, 0, none⟩) 1 1) 1 [.slice none 0 0] := ⟨rfl, .inr ⟨w.heap.size + 1 + 1, 1, #[.slice none 0 0], rfl, Nat.zero_le _, V2.out, Nat.le_refl _, by unfold maxLen; omega, rfl, rfl⟩⟩
        exact (HG2.out.aside hoB (by decide) (by decide) (by decide) (grown_setRow10 _ _ _)).mono (Nat.le_refl _) (by simp)
  · have hdum : True := trivial
    clear hdum
    have HNN := hid (show max ps.length (q + 1) = n by rw [hl]; omega)
    have hN17 : n ≤ 17 := by omega
    have hnN : n ≤ n := by omega
    have hqN : q < n := by omega
    have HPAD := hid (show padH ps q = ps ++ List.replicate (n - n) pg0 by unfold padH; rw [hl, show q + 1 - n = n - n by omega])
    go_enter Tryz.func146, Tryz.ntmps146
    go_wp2_with (at_make; refine wpList_make_full _ rfl _ _ 24 rfl (w.heap.size + 3) 97 i0 (.agg #[.int .i64 0, .slice none 0 0]) 2 Tryz.underlying24 hi hz0 hz1 _ _ _ _ (n) rfl rfl (by omega) (by omega) ?b2 ?b3 ?b4 ?_)
    case b2 => first | omega | (rw [hz2]; omega)
    case b3 => unfold maxLen; omega
    try (case b4 => have := HZ.out; omega)
    clear c0
    generalize ((w.alloc (.cells #[.slice ad n cap] 26)).alloc (.cells #[.int .i64 RL, .slice a' m c'] 97)).alloc (.cells #[.slice none 0 0] 26) = W0 at *
    intro w0 hown0 hgrow0
    have b := (Below.refl W0.heap.size W0).grown hgrow0 (Nat.le_refl _) (fun k h => by cases h)
    rw [made2n, ← nilS, ← zeroN9] at hown0
    have hsz0 := (hown0.lt _ rfl).2
    have HOG := hid (show OwnG w0 (w.heap.size + 3) w0.heap.size (.slice (some ⟨w.heap.size + 1 + 1 + 1, 0, none⟩) (n) (n)) (List.replicate (n) pg0) from OwnG.zeros hown0 hsz0)
    have Q0 := hid ((b.block _ (by have := HZ.out; omega)).trans HX0.out)
    have Q1 := hid ((b.block _ (by have := HZ.out; omega)).trans HX1.out)
    have Q2 := hid ((b.block _ (by have := HZ.out; omega)).trans HX2.out)
    have HB1 := hid (HBW.out.trans (b.mono HBW.out.size))
    have HS1 := hid (show w.heap.size + 3 ≤ w0.heap.size by have := HZ.out; have := b.size; omega)
    have c0 : w0.cell? ⟨w.heap.size, 0, none⟩ = some (.slice ad n cap) := cell_of_row _ _ 0 _ _ _ Q0.out
    clear hown0 hgrow0 b hsz0
    go_wp2_with fail
    clear c0
    go_loopw [20] (fun i wr => ∃ (k : Nat), k ≤ n ∧ i = .int .i64 k ∧ Hid (OwnG wr (w.heap.size + 3) wr.heap.size (.slice (some ⟨w.heap.size + 1 + 1 + 1, 0, none⟩) (n) (n)) (ps.take k ++ List.replicate (n - k) pg0)) ∧ Hid (wr.heap[w.heap.size + 1]? = some (.cells #[.int .i64 RL, .slice a' m c'] 97)) ∧ Hid (wr.heap[w.heap.size + 1 + 1]? = some (.cells #[.slice none 0 0] 26)) ∧ Hid (Below w.heap.size w wr) ∧ Hid (w.heap.size + 3 ≤ wr.heap.size)) (fun i _ => n - (intOf i).toNat)
    case atStart => exact ⟨0, Nat.zero_le _, rfl, hid (by simpa using HOG.out), Q1, Q2, HB1, HS1⟩
    case round =>
      clear HOG Q0 Q1 Q2 HB1 HS1
      obtain ⟨k, hk, rfl, hown, Q1, Q2, hnx, hsz⟩ := hrel
      by_cases hlt : k < n
      · have hlt' : (k : Int) < (n : Int) := by omega
        have hk0 : (0 : Int) ≤ (k : Int) := by omega
        have hkN' : (k : Int) < (((n) : Nat) : Int) := by omega
        obtain ⟨b, off, ap, cp, rfl, hca0, hcx0, hr0, hmx⟩ := HH.out.at (k := k) (by omega)
        have hpg := okPg_of ((okH_of HO.out).2 k (by omega))
        have h16 := (okP_of hpg.1).n
        have hz92 := (okP_of hpg.1).z
        have hbl := World.block_lt_of_cell? w _ hca0
        have hca := (hnx.out.cell (p := ⟨b, off + k * 2, none⟩) hbl).trans hca0
        have hcx := (hnx.out.cell (p := ⟨b, off + k * 2 + 1, none⟩) hbl).trans hcx0
        have HT := hid (take_snocG ps k (by omega))
        have hrp := hr0.below hnx.out (Nat.le_refl _)
        have HLK := hid (show (ps.take k).length = k by rw [List.length_take]; omega)
        generalize ps.getD k pg0 = p at *
        obtain ⟨A, ss⟩ := p
        obtain ⟨mm, hm⟩ : ∃ m, ss.length = m := ⟨_, rfl⟩
        dsimp only at hcx hca hrp hz92 h16
        rw [hm] at hcx h16
        have HM := hid hm
        have HZ92 := hid hz92
        have bX := Below.alloc1 wr (.cells #[.int .i64 A, .slice ap mm cp] 97)
        have HRP := hid (hrp.below bX (Nat.le_refl _))
        have BX := hid bX
        clear hca0 hcx0 hr0 hmx hm hbl hpg hz92 hrp bX
        go_wp2_with fail
        refine (impl_copied A cp HRP.out.rd HM.out (by omega) (fun i => by have := HZ92.out i; omega)).mono ?_
        rintro e w1 ⟨a1, c1, rfl, op, b1⟩
        have b2 := BX.out.trans (b1.mono BX.out.size)
        have hG1 := hown.out.below b2 (Nat.le_refl _)
        obtain ⟨ys, bs, ow, hBd, hqq⟩ := hG1.own
        have hlen : (ps.take k ++ List.replicate (n - k) pg0).length = n := by rw [List.length_append, HLK.out, List.length_replicate]; omega
        rw [hlen] at ow
        have hyl : ys.length = (fsts (ps.take k ++ List.replicate (n - k) pg0)).length := by rw [hBd.len, fsts_length]; simp
        have hcl : (cellsN (fsts (ps.take k ++ List.replicate (n - k) pg0)) ys).length = (n) * 2 := ow.1
        have hcy : ∃ v, w1.cell? ⟨w.heap.size + 1 + 1 + 1, k * 2, none⟩ = some v := ⟨_, (ow.cellAt (k * 2) (by omega)).trans (List.getElem?_eq_getElem (by omega))⟩
        have hcz : ∃ v, w1.cell? ⟨w.heap.size + 1 + 1 + 1, k * 2 + 1, none⟩ = some v := ⟨_, (ow.cellAt (k * 2 + 1) (by omega)).trans (List.getElem?_eq_getElem (by omega))⟩
        obtain ⟨v1, hcy⟩ := hcy
        obtain ⟨v2, hcz⟩ := hcz
        have hfr : w1.frozen? ⟨w.heap.size + 1 + 1 + 1, k * 2, none⟩ = false := ow.frozenAt (k * 2)
        have hfz : w1.frozen? ⟨w.heap.size + 1 + 1 + 1, k * 2 + 1, none⟩ = false := ow.frozenAt (k * 2 + 1)
        have HG2 := hid (OwnG.swap (A := A) (lo' := w.heap.size + 3) (hi' := w1.heap.size) hG1 hlen (i := k) (by omega) op (.inr BX.out.size) (Nat.le_refl _) (by have := BX.out.size; have := hsz.out; omega) b2.size (Nat.le_refl _))
        rw [set_rep _ k (n) pg0 (A, ss) HLK.out (by omega), ← HT.out] at HG2
        have V1 := hid ((heap_set_ne _ (w.heap.size + 1 + 1 + 1) (k * 2 + 1) (w.heap.size + 1) (.slice a1 mm c1) (by omega)).trans ((heap_set_ne w1 (w.heap.size + 1 + 1 + 1) (k * 2) (w.heap.size + 1) (.int .i64 A) (by omega)).trans ((b2.block _ (by have := hsz.out; omega)).trans Q1.out)))
        have V2 := hid ((heap_set_ne _ (w.heap.size + 1 + 1 + 1) (k * 2 + 1) (w.heap.size + 1 + 1) (.slice a1 mm c1) (by omega)).trans ((heap_set_ne w1 (w.heap.size + 1 + 1 + 1) (k * 2) (w.heap.size + 1 + 1) (.int .i64 A) (by omega)).trans ((b2.block _ (by have := hsz.out; omega)).trans Q2.out)))
        have HN2 := hid (((hnx.out.trans (b2.mono hnx.out.size)).setCell (p := ⟨w.heap.size + 1 + 1 + 1, k * 2, none⟩) (by show w.heap.size ≤ w.heap.size + 1 + 1 + 1; omega) (.int .i64 A)).setCell (p := ⟨w.heap.size + 1 + 1 + 1, k * 2 + 1, none⟩) (by show w.heap.size ≤ w.heap.size + 1 + 1 + 1; omega) (.slice a1 mm c1))
        have HS2 := hid (show w.heap.size + 3 ≤ w1.heap.size by have := hsz.out; have := b2.size; omega)
        clear op b1 b2 hG1 ow hBd hqq hlen hyl hcl hown Q1 Q2 hnx hsz hca hcx
        go_wp2_with fail
        go_roundw
        case rel => exact ⟨k + 1, by omega, by go_num, hid (by simpa [set_size] using HG2.out), V1, V2, HN2, hid (by simpa [set_size] using HS2.out)⟩
        case measure => simp [intOf]; omega
      · have hlt' : ¬ (k : Int) < (n : Int) := by omega
        obtain rfl : n = k := by omega
        have hqN' : (q : Int) < (((n) : Nat) : Int) := by omega
        have hq0 : (0 : Int) ≤ (q : Int) := by omega
        have hG1 : OwnG wr (w.heap.size + 3) wr.heap.size (.slice (some ⟨w.heap.size + 1 + 1 + 1, 0, none⟩) (n) (n)) (padH ps q) := by have := hown.out; rw [List.take_of_length_le (by omega)] at this; rw [HPAD.out]; exact this
        have hlen : (padH ps q).length = n := by rw [padH_len, HNN.out]
        obtain ⟨ys, bs, ow, hBd, hqq⟩ := hG1.own
        rw [hlen] at ow
        have hcl : (cellsN (fsts (padH ps q)) ys).length = (n) * 2 := ow.1
        have hcy : ∃ v, wr.cell? ⟨w.heap.size + 1 + 1 + 1, q * 2, none⟩ = some v := ⟨_, (ow.cellAt (q * 2) (by omega)).trans (List.getElem?_eq_getElem (by omega))⟩
        have hcz : ∃ v, wr.cell? ⟨w.heap.size + 1 + 1 + 1, q * 2 + 1, none⟩ = some v := ⟨_, (ow.cellAt (q * 2 + 1) (by omega)).trans (List.getElem?_eq_getElem (by omega))⟩
        obtain ⟨v1, hcy⟩ := hcy
        obtain ⟨v2, hcz⟩ := hcz
        have hfr : wr.frozen? ⟨w.heap.size + 1 + 1 + 1, q * 2, none⟩ = false := ow.frozenAt (q * 2)
        have hfz : wr.frozen? ⟨w.heap.size + 1 + 1 + 1, q * 2 + 1, none⟩ = false := ow.frozenAt (q * 2 + 1)
        have HG2 := hid (OwnG.swap (A := RL) (lo' := lo) (hi' := wr.heap.size) hG1 hlen (i := q) (by omega) (HP.out.below hnx.out (Nat.le_refl _)) (.inl (by omega)) (by omega) (Nat.le_refl _) (Nat.le_refl _) (by have := hsz.out; omega))
        have q0 : wr.cell? ⟨w.heap.size + 1, 0, none⟩ = some (.int .i64 RL) := cell_of_row _ _ 0 _ _ _ Q1.out
        have q1 : wr.cell? ⟨w.heap.size + 1, 1, none⟩ = some (.slice a' m c') := cell_of_row _ _ 1 _ _ _ Q1.out
        have V2 := hid ((heap_set_ne _ (w.heap.size + 1 + 1 + 1) (q * 2 + 1) (w.heap.size + 1 + 1) (.slice a' m c') (by omega)).trans ((heap_set_ne wr (w.heap.size + 1 + 1 + 1) (q * 2) (w.heap.size + 1 + 1) (.int .i64 RL) (by omega)).trans Q2.out))
        have HN2 := hid ((hnx.out.setCell (p := ⟨w.heap.size + 1 + 1 + 1, q * 2, none⟩) (by show w.heap.size ≤ w.heap.size + 1 + 1 + 1; omega) (.int .i64 RL)).setCell (p := ⟨w.heap.size + 1 + 1 + 1, q * 2 + 1, none⟩) (by show w.heap.size ≤ w.heap.size + 1 + 1 + 1; omega) (.slice a' m c'))
        have HWL := hid (show (withH ps q (RL, RS)).length = n by rw [withH_len, HNN.out])
        have HSZ := hid hsz.out
        clear ow hBd hqq hlen hcl hown Q1 Q2 hnx hG1 hsz
        go_wp2_with (refine wpList_store_row rfl 26 (.tmp 6) (.tmp 36) rfl (w.heap.size + 1 + 1) #[.slice (some ⟨w.heap.size + 1 + 1 + 1, 0, none⟩) (n) (n)] rfl rfl 26 _ V2.out ?s1 ?s2 ?s3 ?_)
        case s1 => simpa using size_hp
        case s3 => simp [Value.oneCell']
        refine bodyPost_ret (results_cell_row Tryz.results146 _ _ (w.heap.size + 1 + 1) 26 #[.slice (some ⟨w.heap.size + 1 + 1 + 1, 0, none⟩) (n) (n)] (0, 0) _ rfl (setRow_heap _ _ _ _ _ _ V2.out) Tryz.underlying26 rfl size_hp) rfl ⟨some ⟨w.heap.size + 1 + 1 + 1, 0, none⟩, n, by rw [HWL.out], ?_, below_setRow HN2.out (by omega) _⟩
        rw [HWL.out]
        have hoB : ((wr.setCell ⟨w.heap.size + 1 + 1 + 1, q * 2, none⟩ (.int .i64 RL)).setCell ⟨w.heap.size + 1 + 1 + 1, q * 2 + 1, none⟩ (.slice a' m c')).ownsRow 0 26 1 (.slice (some ⟨w.heap.size + 1 + 1, 0, none⟩) 1 1) 1 [.slice none 0 0] := ⟨rfl, .inr ⟨w.heap.size + 1 + 1, 1, #[.slice none 0 0], rfl, Nat.zero_le _, V2.out, Nat.le_refl _, by unfold maxLen; omega, rfl, rfl⟩⟩
        exact (HG2.out.aside hoB (by decide) (by decide) (by decide) (grown_setRow10 _ _ _)).mono (Nat.le_refl _) (by simp)
end Go.Proofs.YtebhipicfgnajaaGreat
