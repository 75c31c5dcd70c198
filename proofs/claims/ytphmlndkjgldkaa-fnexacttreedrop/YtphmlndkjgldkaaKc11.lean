/- The contracts of the laws' toEntryS, szEntryS, eqEntryS. Conditions: entries of at most 2^21 bytes together. -/
import Derived.Test.YtphmlndkjgldkaaKb11
import Derived.Test.YtphmlndkjgldkaaNm9
namespace Go.Proofs.Ytphmlndkjgldkaa
open Go.RowKit
set_option maxRecDepth 100000
theorem made5n (a b c d e : Value) : ∀ n : Nat, (madeCells #[a, b, c, d, e] (n * 5)).toList = (List.replicate n [a, b, c, d, e]).flatten := by
 intro n
 have h : ∀ n : Nat, (madeCells #[a, b, c, d, e] (n * 5)).toList = (List.range (n * 5)).map (fun i => #[a, b, c, d, e][i % 5]!) := by
  intro n
  simp [madeCells]
 rw [h]
 induction n with
 | zero => rfl
 | succ n ih =>
  rw [show (n + 1) * 5 = n * 5 + 5 by omega, List.range_add, List.map_append, ih, List.replicate_succ', List.flatten_append]
  congr 1
  simp [List.range_succ]
theorem zeroE (n : Nat) : cellsE (List.replicate n en0) (List.replicate n nilS) = (List.replicate n [Value.int .i64 0, .int .i64 0, .float .f64 0, nilS, .int .i64 0]).flatten := by
 induction n with
 | zero => rfl
 | succ n ih => rw [List.replicate_succ, List.replicate_succ, cellsE, ih, List.replicate_succ]; rfl
theorem cellsE_set5 : ∀ (es : List En) (xs : List Value) (k : Nat) (e : En) (x : Value), xs.length = es.length → k < es.length → (((((cellsE es xs).set (k * 5) (.int .i64 e.K)).set (k * 5 + 1) (.int .i64 e.N)).set (k * 5 + 2) (.float .f64 e.F)).set (k * 5 + 3) x).set (k * 5 + 4) (.int .i64 e.id) = cellsE (es.set k e) (xs.set k x)
 | q :: es, y :: xs, 0, e, x, _, _ => by simp [cellsE, cellsE1]
 | q :: es, y :: xs, k + 1, e, x, h, hk => by
  have ih := cellsE_set5 es xs k e x (by simpa using h) (by simpa using hk)
  rw [show (k + 1) * 5 = k * 5 + 5 by omega]
  simp only [cellsE, cellsE1, List.cons_append, List.nil_append, List.set_cons_succ, ← ih]
def sumE : List En → Nat
 | [] => 0
 | e :: es => e.Z.length + sumE es
theorem sumE_app : ∀ a b : List En, sumE (a ++ b) = sumE a + sumE b
 | [], b => by simp [sumE]
 | e :: a, b => by simp [sumE, sumE_app a b]; omega
theorem take_snocE (es : List En) (k : Nat) (h : k < es.length) : es.take (k + 1) = es.take k ++ [es.getD k en0] := by
 rw [List.take_add_one, List.getElem?_eq_getElem h, Option.toList_some]
 simp [List.getD, h]
theorem sumE_step (es : List En) (k : Nat) (h : k < es.length) : sumE (es.take (k + 1)) = sumE (es.take k) + (es.getD k en0).Z.length := by
 rw [take_snocE es k h, sumE_app]; simp [sumE]
theorem sumE_take (es : List En) (k : Nat) : sumE (es.take k) ≤ sumE es := by
 have : sumE es = sumE (es.take k ++ es.drop k) := by rw [List.take_append_drop]
 rw [this, sumE_app]; omega
theorem sumE_at (es : List En) (k : Nat) (h : k < es.length) : (es.getD k en0).Z.length ≤ sumE es := by
 have h1 := sumE_step es k h
 have h2 := sumE_take es (k + 1)
 omega
set_option maxHeartbeats 3200000 in
theorem toEntryS {ad : Option Addr} {n : Nat} (cap : Nat) {es : List En} {w : World} (h : ReadsE w ad es) (hl : es.length = n) (hn : n ≤ 2097152) (hs : sumE es ≤ 2097152) :
 Calls Try.prog 125 #[.slice ad n cap] w fun e w' => e = .returned (.slice (some ⟨w.heap.size, 0, none⟩) n n) ∧ OwnE w' w.heap.size w'.heap.size (.slice (some ⟨w.heap.size, 0, none⟩) n n) es ∧ Below w.heap.size w w' := by
 obtain ⟨i0, hi, hz0, hz1, hz2⟩ := info_parts Try.infoEn
 have HFL := hid (show ∀ i, (es.getD i en0).F < 18446744073709551616 from fun i => by
  by_cases hc : i < es.length
  · obtain ⟨_, _, _, _, _, _, _, _, _, hf⟩ := h.at (k := i) hc
    exact hf
  · rw [List.getD_eq_getElem?_getD, List.getElem?_eq_none (by omega)]; simp [en0])
 go_enter Try.func125, Try.ntmps125
 go_wp2_with (at_make; refine wpList_make_full _ rfl _ _ 28 rfl w.heap.size 35 i0 (.agg #[.int .i64 0, .int .i64 0, .float .f64 0, .slice none 0 0, .int .i64 0]) 5 Try.underlying28 hi hz0 hz1 _ _ _ _ n rfl rfl (by omega) (by omega) ?b2 ?b3 (Nat.le_refl _) ?_)
 case b2 => rw [hz2]; omega
 case b3 => unfold maxLen; omega
 intro sn0' hown0 hgrow0
 go_wp2
 go_loopw [4] (fun i wr => ∃ (k : Nat) (xs : List Value), k ≤ n ∧ i = .int .i64 k ∧ xs.length = k ∧ Hid (wr.ownsRow w.heap.size 35 5 (.slice (some ⟨w.heap.size, 0, none⟩) n n) n (cellsE (es.take k ++ List.replicate (n - k) en0) (xs ++ List.replicate (n - k) nilS))) ∧ Hid (Bands wr w.heap.size wr.heap.size xs (textsE (es.take k))) ∧ Hid (Below w.heap.size w wr))
  (fun i _ => n - (intOf i).toNat)
 case atStart =>
  refine ⟨0, [], Nat.zero_le _, rfl, rfl, hid ?_, hid (by rw [List.take_zero]; exact Bands.nil _ _ _), hid ((Below.refl _ _).grown hgrow0 (Nat.le_refl _) (fun k h => by cases h))⟩
  rw [made5n, ← nilS, ← zeroE] at hown0
  simpa using hown0
 case round =>
  obtain ⟨k, xs, hk, rfl, hx, hown, hB, hnx⟩ := hrel
  by_cases hlt : k < n
  · have hlt' : (k : Int) < (n : Int) := by omega
    obtain ⟨b, off, a, c, rfl, bx0, r0, _, _, _⟩ := h.at (k := k) (by omega)
    have bx := bx0.below hnx.out (Nat.le_refl _)
    have hr := hid (r0.below hnx.out (Nat.le_refl _))
    have hlen := sumE_at es k (by omega)
    have HT := hid (take_snocE es k (by omega))
    have HBD := hid r0.bd
    generalize es.getD k en0 = e at *
    obtain ⟨K, N, F, Z, id⟩ := e
    obtain ⟨m, hm⟩ : ∃ m, Z.length = m := ⟨_, rfl⟩
    simp only at bx hlen hr HBD
    rw [hm] at bx hlen hr
    have hmm : m ≤ 2097152 := by omega
    have HM := hid hm
    have hst := fun w a m => run_store Try.prog w a (.float .f64 F) m rfl
    obtain ⟨c0, c1, c2, c3, c4⟩ := bx
    clear bx0 r0 hm hown0 hgrow0 hlen
    go_wp2_with fail
    clear c0 c1 c2 c3 c4
    refine (toEntry K N F c id hr.out (by omega)).mono ?_
    rintro e w1 ⟨g, rfl, o1, b1⟩
    have hown1 := owns_below b1 (by have := hnx.out.size; omega) hown.out
    have hxl : (xs ++ List.replicate (n - k) nilS).length = (es.take k ++ List.replicate (n - k) en0).length := by simp; omega
    have hel : (es.take k ++ List.replicate (n - k) en0).length = n := by simp; omega
    have hz0 : (cellsE (es.take k ++ List.replicate (n - k) en0) (xs ++ List.replicate (n - k) nilS)).length = n * 5 := by
     rw [cellsE_len _ _ hxl, hel]
    have hcc : ∀ q, q < 5 → ∃ v, w1.cell? ⟨w.heap.size, k * 5 + q, none⟩ = some v := fun q hq => by
     rw [hown1.cellAt (k * 5 + q) (by omega)]
     exact ⟨_, List.getElem?_eq_getElem (by omega)⟩
    obtain ⟨v0, d0⟩ := hcc 0 (by omega)
    obtain ⟨v1, d1⟩ := hcc 1 (by omega)
    obtain ⟨v2, d2⟩ := hcc 2 (by omega)
    obtain ⟨v3, d3⟩ := hcc 3 (by omega)
    obtain ⟨v4, d4⟩ := hcc 4 (by omega)
    simp only [Nat.add_zero] at d0
    have fz : ∀ q, w1.frozen? ⟨w.heap.size, q, none⟩ = false := fun q => hown1.frozenAt q
    have f0 := fz (k * 5)
    have f1 := fz (k * 5 + 1)
    have f2 := fz (k * 5 + 2)
    have f3 := fz (k * 5 + 3)
    have f4 := fz (k * 5 + 4)
    have S0 := hown1.stored (k * 5) (.int .i64 K)
    have S1 := S0.1.stored (k * 5 + 1) (.int .i64 N)
    have S2 := S1.1.stored (k * 5 + 2) (.float .f64 F)
    have S3 := S2.1.stored (k * 5 + 3) (.slice (some ⟨g, 0, none⟩) m m)
    have S4 := S3.1.stored (k * 5 + 4) (.int .i64 id)
    have hB1 : Bands w1 w.heap.size w1.heap.size (xs ++ [.slice (some ⟨g, 0, none⟩) m m]) (textsE (es.take k) ++ [Z]) := (hB.out.agree (Agree.below b1 (Nat.le_refl _))).snoc (by have := hnx.out.size; omega) b1.size (by rw [HM.out]; exact o1) HBD.out (Nat.le_refl _)
    have B1 := hB1.beside S0.2 (fun i => owns_ne (hB1.own i) hown1 (by decide))
    have B2 := B1.beside S1.2 (fun i => owns_ne (B1.own i) S0.1 (by decide))
    have B3 := B2.beside S2.2 (fun i => owns_ne (B2.own i) S1.1 (by decide))
    have B4 := B3.beside S3.2 (fun i => owns_ne (B3.own i) S2.1 (by decide))
    have B5 := B4.beside S4.2 (fun i => owns_ne (B4.own i) S3.1 (by decide))
    have V5 := (((((hnx.out.trans (b1.mono hnx.out.size)).setCell (p := ⟨w.heap.size, k * 5, none⟩) (Nat.le_refl _) (.int .i64 K)).setCell (p := ⟨w.heap.size, k * 5 + 1, none⟩) (Nat.le_refl _) (.int .i64 N)).setCell (p := ⟨w.heap.size, k * 5 + 2, none⟩) (Nat.le_refl _) (.float .f64 F)).setCell (p := ⟨w.heap.size, k * 5 + 3, none⟩) (Nat.le_refl _) (.slice (some ⟨g, 0, none⟩) m m)).setCell (p := ⟨w.heap.size, k * 5 + 4, none⟩) (Nat.le_refl _) (.int .i64 id)
    have O5 := S4.1
    rw [cellsE_set5 _ _ k ⟨K, N, F, Z, id⟩ _ hxl (by rw [hel]; omega), set_rep9 _ k n en0 _ (by simp; omega) hlt, set_rep9 xs k n nilS _ hx hlt, ← HT.out] at O5
    have HO := hid O5
    have HBB := hid B5
    have HV := hid V5
    clear S0 S1 S2 S3 S4 hB1 B1 B2 B3 B4 B5 V5 O5 hown1 o1 b1 hz0 hcc fz hxl hel
    go_wp2_with fail
    go_roundw
    case rel => exact ⟨k + 1, xs ++ [.slice (some ⟨g, 0, none⟩) m m], by omega, by go_num, by simp [hx], HO, hid (by rw [HT.out, textsE_app]; simpa [textsE] using HBB.out), HV⟩
    case measure => simp [intOf]; omega
  · go_wp2
    go_ret
    have hkn : k = n := by omega
    subst hkn
    refine ⟨rfl, ⟨⟨xs, ?_, ?_⟩, fun g hg => (hown.out.lt g hg).2, HFL.out⟩, hnx.out⟩
    · have := hown.out
      rw [List.take_of_length_le (by omega)] at this
      rw [hl]
      simpa using this
    · have := hB.out
      rw [List.take_of_length_le (by omega)] at this
      exact this
set_option maxHeartbeats 1600000 in
theorem szEntryS {ad : Option Addr} {n : Nat} (cap : Nat) {es : List En} {w : World} (h : ReadsE w ad es) (hl : es.length = n) (hn : n ≤ 9223372036854775807) (left : Int) (h0 : 0 ≤ left) (h1 : left ≤ 1048576) :
 Calls Try.prog 123 #[.slice ad n cap, .int .i64 left] w fun e w' => e = .returned (.int .i64 (lft11 left (n + sumE es))) ∧ Below w.heap.size w w' := by
 have a1 : (0 : Int) ≤ (n : Int) := by omega
 have a2 : (n : Int) ≤ 9223372036854775807 := by omega
 by_cases hbig : left < n
 · have q : left - (n : Int) < 0 := by omega
   have HE := hid (show lft11 left (n + sumE es) = -1 by unfold lft11; rw [if_pos (by omega)])
   go_enter Try.func123, Try.ntmps123
   go_wp2
   go_ret
   exact ⟨by rw [HE.out]; rfl, Below.refl _ _⟩
 have q : ¬ left - (n : Int) < 0 := by omega
 have hn2 : n ≤ 1048576 := by omega
 obtain ⟨L, hL⟩ : ∃ L : Int, left - n = L := ⟨_, rfl⟩
 have hL0 : 0 ≤ L := by omega
 have hL1 : L ≤ 1048576 := by omega
 have HG := hid (show ∀ t : Nat, lft11 left (n + t) = lft11 L t by intro t; unfold lft11; by_cases hh : L < t; rw [if_pos (by omega), if_pos hh]; rw [if_neg (by omega), if_neg hh]; omega)
 have HL := hid hL
 go_enter Try.func123, Try.ntmps123
 go_wp2
 clear hL q
 go_loopw [1, 5] (fun l i wr => ∃ (k : Nat) (x : Int), k ≤ n ∧ i = .int .i64 k ∧ l = .int .i64 x ∧ 0 ≤ x ∧ x ≤ 1048576 ∧ Hid (x = L - sumE (es.take k)) ∧ Hid (Below w.heap.size w wr)) (fun _ i _ => n - (intOf i).toNat)
 case atStart => exact ⟨0, L, Nat.zero_le _, rfl, rfl, hL0, hL1, hid (by simp [sumE]), hid (Below.refl _ _)⟩
 case round =>
  obtain ⟨k, x, hk, rfl, rfl, hx0, hx1, HX, hB⟩ := hrel
  by_cases hlt : k < n
  · have hlt' : (k : Int) < (n : Int) := by omega
    have hk0 : (0 : Int) ≤ (k : Int) := by omega
    obtain ⟨b, off, a, c, rfl, bx0, r0, _, hmx, _⟩ := h.at (k := k) (by omega)
    unfold maxLen at hmx
    have bx := bx0.below hB.out (Nat.le_refl _)
    have HT := hid (sumE_step es k (by omega))
    have HU := hid (sumE_take es (k + 1))
    generalize es.getD k en0 = e at *
    obtain ⟨K, N, F, Z, id⟩ := e
    simp only at bx hmx HT
    obtain ⟨m, hm⟩ : ∃ m, Z.length = m := ⟨_, rfl⟩
    rw [hm] at bx hmx HT
    obtain ⟨y, hy⟩ : ∃ y : Int, lft11 x m = y := ⟨_, rfl⟩
    have HY := hid hy
    have hy2 : (x < (m : Nat) ∧ y = -1) ∨ (0 ≤ y ∧ y ≤ 1048576 ∧ y = x - (m : Nat)) := by
     unfold lft11 at hy
     by_cases hh : x < (m : Nat)
     · rw [if_pos hh] at hy; exact .inl ⟨hh, hy.symm⟩
     · rw [if_neg hh] at hy; exact .inr ⟨by omega, by omega, hy.symm⟩
    have HY2 := hid hy2
    have hst := fun w a m => run_store Try.prog w a (.float .f64 F) m rfl
    obtain ⟨c0, c1, c2, c3, c4⟩ := bx
    clear r0 hm hy hy2 bx0
    go_wp2_with fail
    clear c0 c1 c2 c3 c4
    refine (szEntry K N F a m c id x (by omega) hx0 hx1 wr).mono ?_
    rintro e w1 ⟨rfl, b1⟩
    rw [HY.out]
    have HB := hid (hB.out.trans (b1.mono hB.out.size))
    clear b1
    rcases HY2.out with ⟨hbm, rfl⟩ | ⟨hy0, hy1, hye⟩
    · go_wp2_with fail
      go_ret
      refine ⟨?_, HB.out⟩
      rw [HG.out]
      unfold lft11
      rw [if_pos (by have := HT.out; have := HU.out; have := HX.out; omega)]
      rfl
    · have hy2 : ¬ y < 0 := by omega
      have HYE := hid hye
      clear hye HY2
      go_wp2_with fail
      go_roundw
      case rel => exact ⟨k + 1, y, by omega, by go_num, rfl, hy0, hy1, hid (by have := HT.out; have := HX.out; have := HYE.out; omega), HB⟩
      case measure => simp [intOf]; omega
  · have hlt' : ¬ (k : Int) < (n : Int) := by omega
    go_wp2
    go_ret
    refine ⟨?_, hB.out⟩
    rw [HG.out]
    have := HX.out
    rw [List.take_of_length_le (by omega)] at this
    unfold lft11
    rw [if_neg (by omega), this]
    rfl
set_option maxHeartbeats 6400000 in
theorem eqEntryS {ad ad' : Option Addr} {n : Nat} (cap cap' : Nat) {es : List En} {w : World} (h : ReadsE w ad es) (h' : ReadsE w ad' es) (hl : es.length = n) (hn : n ≤ 2097152) (hs : sumE es ≤ 2097152) :
 Calls Try.prog 34 #[.slice ad n cap, .slice ad' n cap'] w fun e w' => e = .returned (.bool true) ∧ Below w.heap.size w w' := by
 go_enter Try.func34, Try.ntmps34
 go_wp2
 go_loopw [5] (fun i wr => ∃ k : Nat, k ≤ n ∧ i = .int .i64 k ∧ Hid (Below w.heap.size w wr)) (fun i _ => n - (intOf i).toNat)
 case atStart => exact ⟨0, Nat.zero_le _, rfl, hid (Below.refl _ _)⟩
 case round =>
  obtain ⟨k, hk, rfl, hS⟩ := hrel
  by_cases hlt : k < n
  · have hlt' : (k : Int) < (n : Int) := by omega
    have hk0 : (0 : Int) ≤ (k : Int) := by omega
    obtain ⟨b, off, a1, c1, rfl, bx, r1, _, _, hf⟩ := h.at (k := k) (by omega)
    obtain ⟨b', off', a1', c1', rfl, bx', r1', _, _, _⟩ := h'.at (k := k) (by omega)
    have hlen := sumE_at es k (by omega)
    generalize es.getD k en0 = e at *
    obtain ⟨K, N, F, Z, id⟩ := e
    simp only at bx bx' r1 r1' hlen hf
    obtain ⟨zl, hzl⟩ : ∃ zl, Z.length = zl := ⟨_, rfl⟩
    rw [hzl] at bx bx' r1 r1' hlen
    have bD := (Still.drew wr).below wr.heap.size
    have hz2 : zl ≤ 2097152 := by omega
    have BX := hid ((bx.below hS.out (Nat.le_refl _)).below bD (Nat.le_refl _))
    have BY := hid ((bx'.below hS.out (Nat.le_refl _)).below bD (Nat.le_refl _))
    have R1 := hid ((r1.below hS.out (Nat.le_refl _)).below bD (Nat.le_refl _))
    have R3 := hid ((r1'.below hS.out (Nat.le_refl _)).below bD (Nat.le_refl _))
    have HF := hid hf
    clear bx bx' r1 r1' hlen hzl hf
    go_wp2
    replace hS := hid (hS.out.trans (bD.mono hS.out.size))
    clear bD
    refine region_K 99 (fun W => Box5 W b (off + k * 5) K N F (.slice a1 zl c1) id ∧ Box5 W b' (off' + k * 5) K N F (.slice a1' zl c1') id) (by kernel_rfl) ?_ (fun hHeld => ?_)
    · exact ⟨BX.out, BY.out⟩
    generalize wr.drew = v0 at *
    refine anyK_take2 (i := 0) (v := ?v0) rfl (by kernel_rfl) (by kernel_rfl) (by kernel_rfl) (by rfl) (fun _ _ _ h => h) (by rfl) hHeld ?hy0 (some 17) (by rfl) ?rest0
    case hy0 => (intro W hSw; obtain ⟨⟨x0, x1, x2, x3, x4⟩, ⟨y0, y1, y2, y3, y4⟩⟩ := hSw; go_simp; (try with_reducible rfl))
    try simp only [Act.put, List.setIfInBounds_toArray, List.set_cons_succ, List.set_cons_zero]
    refine anyK_take2 (i := 1) (v := ?v1) rfl (by kernel_rfl) (by kernel_rfl) (by kernel_rfl) (by rfl) (fun _ _ _ h => h) (by rfl) hHeld ?hy1 (some 18) (by rfl) ?rest1
    case hy1 => (intro W hSw; obtain ⟨⟨x0, x1, x2, x3, x4⟩, ⟨y0, y1, y2, y3, y4⟩⟩ := hSw; go_simp; (try with_reducible rfl))
    try simp only [Act.put, List.setIfInBounds_toArray, List.set_cons_succ, List.set_cons_zero]
    refine anyK_take2 (i := 2) (v := ?v2) rfl (by kernel_rfl) (by kernel_rfl) (by kernel_rfl) (by rfl) (fun _ _ _ h => h) (by rfl) hHeld ?hy2 (some 19) (by rfl) ?rest2
    case hy2 => (intro W hSw; obtain ⟨⟨x0, x1, x2, x3, x4⟩, ⟨y0, y1, y2, y3, y4⟩⟩ := hSw; go_simp; (try with_reducible rfl))
    try simp only [Act.put, List.setIfInBounds_toArray, List.set_cons_succ, List.set_cons_zero]
    refine anyK_take2 (i := 3) (v := ?v3) rfl (by kernel_rfl) (by kernel_rfl) (by kernel_rfl) (by rfl) (fun _ _ _ h => h) (by rfl) hHeld ?hy3 (some 20) (by rfl) ?rest3
    case hy3 => (intro W hSw; obtain ⟨⟨x0, x1, x2, x3, x4⟩, ⟨y0, y1, y2, y3, y4⟩⟩ := hSw; go_simp; (try with_reducible rfl))
    try simp only [Act.put, List.setIfInBounds_toArray, List.set_cons_succ, List.set_cons_zero]
    refine anyK_take2 (i := 4) (v := ?v4) rfl (by kernel_rfl) (by kernel_rfl) (by kernel_rfl) (by rfl) (fun _ _ _ h => h) (by rfl) hHeld ?hy4 (some 21) (by rfl) ?rest4
    case hy4 => (intro W hSw; obtain ⟨⟨x0, x1, x2, x3, x4⟩, ⟨y0, y1, y2, y3, y4⟩⟩ := hSw; go_simp; (try with_reducible rfl))
    try simp only [Act.put, List.setIfInBounds_toArray, List.set_cons_succ, List.set_cons_zero]
    refine anyK_take2 (i := 5) (v := ?v5) rfl (by kernel_rfl) (by kernel_rfl) (by kernel_rfl) (by rfl) (fun _ _ _ h => h) (by rfl) hHeld ?hy5 (some 22) (by rfl) ?rest5
    case hy5 => (intro W hSw; obtain ⟨⟨x0, x1, x2, x3, x4⟩, ⟨y0, y1, y2, y3, y4⟩⟩ := hSw; go_simp; (try with_reducible rfl))
    try simp only [Act.put, List.setIfInBounds_toArray, List.set_cons_succ, List.set_cons_zero]
    refine anyK_take2 (i := 6) (v := ?v6) rfl (by kernel_rfl) (by kernel_rfl) (by kernel_rfl) (by rfl) (fun _ _ _ h => h) (by rfl) hHeld ?hy6 (some 23) (by rfl) ?rest6
    case hy6 => (intro W hSw; obtain ⟨⟨x0, x1, x2, x3, x4⟩, ⟨y0, y1, y2, y3, y4⟩⟩ := hSw; go_simp; (try with_reducible rfl))
    try simp only [Act.put, List.setIfInBounds_toArray, List.set_cons_succ, List.set_cons_zero]
    refine anyK_take2 (i := 7) (v := ?v7) rfl (by kernel_rfl) (by kernel_rfl) (by kernel_rfl) (by rfl) (fun _ _ _ h => h) (by rfl) hHeld ?hy7 (some 24) (by rfl) ?rest7
    case hy7 => (intro W hSw; obtain ⟨⟨x0, x1, x2, x3, x4⟩, ⟨y0, y1, y2, y3, y4⟩⟩ := hSw; go_simp; (try with_reducible rfl))
    try simp only [Act.put, List.setIfInBounds_toArray, List.set_cons_succ, List.set_cons_zero]
    refine anyK_step (i := 8) (by kernel_rfl) rfl (fun KP hK => ?_)
    go_simp
    refine (eqEntry K N F c1 c1' id HF.out R1.out R3.out hz2).mono ?_
    rintro e u ⟨rfl, b1⟩
    have HS2 := hid (hS.out.trans (b1.mono hS.out.size))
    replace BX := hid (BX.out.below b1 (Nat.le_refl _))
    replace BY := hid (BY.out.below b1 (Nat.le_refl _))
    clear b1
    go_wp2_with fail
    clear hHeld
    refine hK.out _ _ ⟨BX.out, BY.out⟩ (fun hHeld => ?_)
    clear hK KP
    try simp only [Act.put, List.setIfInBounds_toArray, List.set_cons_succ, List.set_cons_zero]
    refine anyK_step (i := 9) (by kernel_rfl) rfl (fun KP hK => ?_)
    go_simp
    clear hHeld
    refine hK.out _ _ ⟨BX.out, BY.out⟩ (fun hHeld => ?_)
    clear hK KP
    try simp only [Act.put, List.setIfInBounds_toArray, List.set_cons_succ, List.set_cons_zero]
    refine anyK_done (by kernel_rfl) ?_ _
    clear hHeld
    go_wp2_with fail
    go_roundw
    case rel => exact ⟨k + 1, by omega, by go_num, HS2⟩
    case measure => simp [intOf]; omega
  · have hlt' : ¬ (k : Int) < (n : Int) := by omega
    go_wp2
    go_ret
    exact ⟨rfl, hS.out⟩
end Go.Proofs.Ytphmlndkjgldkaa
