/- Texts of this proof in one: Kc11 Im1 Im2 Sb St Oc Ix Kj11. -/
import Derived.Test.YtphmlndkjgldkaaMgb
import Derived.Test.YtphmlndkjgldkaaMga
import Derived.Laws.BytesArg
import Derived.Laws.Cover1
import Derived.Deep.RegionHeld3
/- The contracts of the laws' toEntryS, szEntryS, eqEntryS. Conditions: entries of at most 2^21 bytes together. -/


namespace Go.Proofs.Ytphmlndkjgldkaa
open Go.RowKit
set_option maxRecDepth 100000
theorem made5n (a b c d e : Value) : ∀ n : Nat, (madeCells #[a, b, c, d, e] (n * 5)).toList = (List.replicate n [a, b, c, d, e]).flatten := by
 intro n
 have h : ∀ n : Nat, (madeCells #[a, b, c, d, e] (n * 5)).toList = (List.range (n * 5)).map (fun i => #[a, b, c, d, e][i % 5]!) := by
  intro n
  simp [madeCells]
 rw [h]
 induction n with
 | zero => rfl
 | succ n ih =>
  rw [show (n + 1) * 5 = n * 5 + 5 by omega, List.range_add, List.map_append, ih, List.replicate_succ', List.flatten_append]
  congr 1
  simp [List.range_succ]
theorem zeroE (n : Nat) : cellsE (List.replicate n en0) (List.replicate n nilS) = (List.replicate n [Value.int .i64 0, .int .i64 0, .float .f64 0, nilS, .int .i64 0]).flatten := by
 induction n with
 | zero => rfl
 | succ n ih => rw [List.replicate_succ, List.replicate_succ, cellsE, ih, List.replicate_succ]; rfl
theorem cellsE_set5 : ∀ (es : List En) (xs : List Value) (k : Nat) (e : En) (x : Value), xs.length = es.length → k < es.length → (((((cellsE es xs).set (k * 5) (.int .i64 e.K)).set (k * 5 + 1) (.int .i64 e.N)).set (k * 5 + 2) (.float .f64 e.F)).set (k * 5 + 3) x).set (k * 5 + 4) (.int .i64 e.id) = cellsE (es.set k e) (xs.set k x)
 | q :: es, y :: xs, 0, e, x, _, _ => by simp [cellsE, cellsE1]
 | q :: es, y :: xs, k + 1, e, x, h, hk => by
  have ih := cellsE_set5 es xs k e x (by simpa using h) (by simpa using hk)
  rw [show (k + 1) * 5 = k * 5 + 5 by omega]
  simp only [cellsE, cellsE1, List.cons_append, List.nil_append, List.set_cons_succ, ← ih]
def sumE : List En → Nat
 | [] => 0
 | e :: es => e.Z.length + sumE es
theorem sumE_app : ∀ a b : List En, sumE (a ++ b) = sumE a + sumE b
 | [], b => by simp [sumE]
 | e :: a, b => by simp [sumE, sumE_app a b]; omega
theorem take_snocE (es : List En) (k : Nat) (h : k < es.length) : es.take (k + 1) = es.take k ++ [es.getD k en0] := by
 rw [List.take_add_one, List.getElem?_eq_getElem h, Option.toList_some]
 simp [List.getD, h]
theorem sumE_step (es : List En) (k : Nat) (h : k < es.length) : sumE (es.take (k + 1)) = sumE (es.take k) + (es.getD k en0).Z.length := by
 rw [take_snocE es k h, sumE_app]; simp [sumE]
theorem sumE_take (es : List En) (k : Nat) : sumE (es.take k) ≤ sumE es := by
 have : sumE es = sumE (es.take k ++ es.drop k) := by rw [List.take_append_drop]
 rw [this, sumE_app]; omega
theorem sumE_at (es : List En) (k : Nat) (h : k < es.length) : (es.getD k en0).Z.length ≤ sumE es := by
 have h1 := sumE_step es k h
 have h2 := sumE_take es (k + 1)
 omega
set_option maxHeartbeats 3200000 in
theorem toEntryS {ad : Option Addr} {n : Nat} (cap : Nat) {es : List En} {w : World} (h : ReadsE w ad es) (hl : es.length = n) (hn : n ≤ 2097152) (hs : sumE es ≤ 2097152) :
 Calls Try.prog 125 #[.slice ad n cap] w fun e w' => e = .returned (.slice (some ⟨w.heap.size, 0, none⟩) n n) ∧ OwnE w' w.heap.size w'.heap.size (.slice (some ⟨w.heap.size, 0, none⟩) n n) es ∧ Below w.heap.size w w' := by
 obtain ⟨i0, hi, hz0, hz1, hz2⟩ := info_parts Try.infoEn
 have HFL := hid (show ∀ i, (es.getD i en0).F < 18446744073709551616 from fun i => by
  by_cases hc : i < es.length
  · obtain ⟨_, _, _, _, _, _, _, _, _, hf⟩ := h.at (k := i) hc
    exact hf
  · rw [List.getD_eq_getElem?_getD, List.getElem?_eq_none (by omega)]; simp [en0])
 go_enter Try.func125, Try.ntmps125
 go_wp2_with (at_make; refine wpList_make_full _ rfl _ _ 28 rfl w.heap.size 35 i0 (.agg #[.int .i64 0, .int .i64 0, .float .f64 0, .slice none 0 0, .int .i64 0]) 5 Try.underlying28 hi hz0 hz1 _ _ _ _ n rfl rfl (by omega) (by omega) ?b2 ?b3 (Nat.le_refl _) ?_)
 case b2 => rw [hz2]; omega
 case b3 => unfold maxLen; omega
 intro sn0' hown0 hgrow0
 go_wp2
 go_loopw [4] (fun i wr => ∃ (k : Nat) (xs : List Value), k ≤ n ∧ i = .int .i64 k ∧ xs.length = k ∧ Hid (wr.ownsRow w.heap.size 35 5 (.slice (some ⟨w.heap.size, 0, none⟩) n n) n (cellsE (es.take k ++ List.replicate (n - k) en0) (xs ++ List.replicate (n - k) nilS))) ∧ Hid (Bands wr w.heap.size wr.heap.size xs (textsE (es.take k))) ∧ Hid (Below w.heap.size w wr))
  (fun i _ => n - (intOf i).toNat)
 case atStart =>
  refine ⟨0, [], Nat.zero_le _, rfl, rfl, hid ?_, hid (by rw [List.take_zero]; exact Bands.nil _ _ _), hid ((Below.refl _ _).grown hgrow0 (Nat.le_refl _) (fun k h => by cases h))⟩
  rw [made5n, ← nilS, ← zeroE] at hown0
  simpa using hown0
 case round =>
  obtain ⟨k, xs, hk, rfl, hx, hown, hB, hnx⟩ := hrel
  by_cases hlt : k < n
  · have hlt' : (k : Int) < (n : Int) := by omega
    obtain ⟨b, off, a, c, rfl, bx0, r0, _, _, _⟩ := h.at (k := k) (by omega)
    have bx := bx0.below hnx.out (Nat.le_refl _)
    have hr := hid (r0.below hnx.out (Nat.le_refl _))
    have hlen := sumE_at es k (by omega)
    have HT := hid (take_snocE es k (by omega))
    have HBD := hid r0.bd
    generalize es.getD k en0 = e at *
    obtain ⟨K, N, F, Z, id⟩ := e
    obtain ⟨m, hm⟩ : ∃ m, Z.length = m := ⟨_, rfl⟩
    simp only at bx hlen hr HBD
    rw [hm] at bx hlen hr
    have hmm : m ≤ 2097152 := by omega
    have HM := hid hm
    have hst := fun w a m => run_store Try.prog w a (.float .f64 F) m rfl
    obtain ⟨c0, c1, c2, c3, c4⟩ := bx
    clear bx0 r0 hm hown0 hgrow0 hlen
    go_wp2_with fail
    clear c0 c1 c2 c3 c4
    refine (toEntry K N F c id hr.out (by omega)).mono ?_
    rintro e w1 ⟨g, rfl, o1, b1⟩
    have hown1 := owns_below b1 (by have := hnx.out.size; omega) hown.out
    have hxl : (xs ++ List.replicate (n - k) nilS).length = (es.take k ++ List.replicate (n - k) en0).length := by simp; omega
    have hel : (es.take k ++ List.replicate (n - k) en0).length = n := by simp; omega
    have hz0 : (cellsE (es.take k ++ List.replicate (n - k) en0) (xs ++ List.replicate (n - k) nilS)).length = n * 5 := by
     rw [cellsE_len _ _ hxl, hel]
    have hcc : ∀ q, q < 5 → ∃ v, w1.cell? ⟨w.heap.size, k * 5 + q, none⟩ = some v := fun q hq => by
     rw [hown1.cellAt (k * 5 + q) (by omega)]
     exact ⟨_, List.getElem?_eq_getElem (by omega)⟩
    obtain ⟨v0, d0⟩ := hcc 0 (by omega)
    obtain ⟨v1, d1⟩ := hcc 1 (by omega)
    obtain ⟨v2, d2⟩ := hcc 2 (by omega)
    obtain ⟨v3, d3⟩ := hcc 3 (by omega)
    obtain ⟨v4, d4⟩ := hcc 4 (by omega)
    simp only [Nat.add_zero] at d0
    have fz : ∀ q, w1.frozen? ⟨w.heap.size, q, none⟩ = false := fun q => hown1.frozenAt q
    have f0 := fz (k * 5)
    have f1 := fz (k * 5 + 1)
    have f2 := fz (k * 5 + 2)
    have f3 := fz (k * 5 + 3)
    have f4 := fz (k * 5 + 4)
    have S0 := hown1.stored (k * 5) (.int .i64 K)
    have S1 := S0.1.stored (k * 5 + 1) (.int .i64 N)
    have S2 := S1.1.stored (k * 5 + 2) (.float .f64 F)
    have S3 := S2.1.stored (k * 5 + 3) (.slice (some ⟨g, 0, none⟩) m m)
    have S4 := S3.1.stored (k * 5 + 4) (.int .i64 id)
    have hB1 : Bands w1 w.heap.size w1.heap.size (xs ++ [.slice (some ⟨g, 0, none⟩) m m]) (textsE (es.take k) ++ [Z]) := (hB.out.agree (Agree.below b1 (Nat.le_refl _))).snoc (by have := hnx.out.size; omega) b1.size (by rw [HM.out]; exact o1) HBD.out (Nat.le_refl _)
    have B1 := hB1.beside S0.2 (fun i => owns_ne (hB1.own i) hown1 (by decide))
    have B2 := B1.beside S1.2 (fun i => owns_ne (B1.own i) S0.1 (by decide))
    have B3 := B2.beside S2.2 (fun i => owns_ne (B2.own i) S1.1 (by decide))
    have B4 := B3.beside S3.2 (fun i => owns_ne (B3.own i) S2.1 (by decide))
    have B5 := B4.beside S4.2 (fun i => owns_ne (B4.own i) S3.1 (by decide))
    have V5 := (((((hnx.out.trans (b1.mono hnx.out.size)).setCell (p := ⟨w.heap.size, k * 5, none⟩) (Nat.le_refl _) (.int .i64 K)).setCell (p := ⟨w.heap.size, k * 5 + 1, none⟩) (Nat.le_refl _) (.int .i64 N)).setCell (p := ⟨w.heap.size, k * 5 + 2, none⟩) (Nat.le_refl _) (.float .f64 F)).setCell (p := ⟨w.heap.size, k * 5 + 3, none⟩) (Nat.le_refl _) (.slice (some ⟨g, 0, none⟩) m m)).setCell (p := ⟨w.heap.size, k * 5 + 4, none⟩) (Nat.le_refl _) (.int .i64 id)
    have O5 := S4.1
    rw [cellsE_set5 _ _ k ⟨K, N, F, Z, id⟩ _ hxl (by rw [hel]; omega), set_rep9 _ k n en0 _ (by simp; omega) hlt, set_rep9 xs k n nilS _ hx hlt, ← HT.out] at O5
    have HO := hid O5
    have HBB := hid B5
    have HV := hid V5
    clear S0 S1 S2 S3 S4 hB1 B1 B2 B3 B4 B5 V5 O5 hown1 o1 b1 hz0 hcc fz hxl hel
    go_wp2_with fail
    go_roundw
    case rel => exact ⟨k + 1, xs ++ [.slice (some ⟨g, 0, none⟩) m m], by omega, by go_num, by simp [hx], HO, hid (by rw [HT.out, textsE_app]; simpa [textsE] using HBB.out), HV⟩
    case measure => simp [intOf]; omega
  · go_wp2
    go_ret
    have hkn : k = n := by omega
    subst hkn
    refine ⟨rfl, ⟨⟨xs, ?_, ?_⟩, fun g hg => (hown.out.lt g hg).2, HFL.out⟩, hnx.out⟩
    · have := hown.out
      rw [List.take_of_length_le (by omega)] at this
      rw [hl]
      simpa using this
    · have := hB.out
      rw [List.take_of_length_le (by omega)] at this
      exact this
set_option maxHeartbeats 1600000 in
theorem szEntryS {ad : Option Addr} {n : Nat} (cap : Nat) {es : List En} {w : World} (h : ReadsE w ad es) (hl : es.length = n) (hn : n ≤ 9223372036854775807) (left : Int) (h0 : 0 ≤ left) (h1 : left ≤ 1048576) :
 Calls Try.prog 123 #[.slice ad n cap, .int .i64 left] w fun e w' => e = .returned (.int .i64 (lft11 left (n + sumE es))) ∧ Below w.heap.size w w' := by
 have a1 : (0 : Int) ≤ (n : Int) := by omega
 have a2 : (n : Int) ≤ 9223372036854775807 := by omega
 by_cases hbig : left < n
 · have q : left - (n : Int) < 0 := by omega
   have HE := hid (show lft11 left (n + sumE es) = -1 by unfold lft11; rw [if_pos (by omega)])
   go_enter Try.func123, Try.ntmps123
   go_wp2
   go_ret
   exact ⟨by rw [HE.out]; rfl, Below.refl _ _⟩
 have q : ¬ left - (n : Int) < 0 := by omega
 have hn2 : n ≤ 1048576 := by omega
 obtain ⟨L, hL⟩ : ∃ L : Int, left - n = L := ⟨_, rfl⟩
 have hL0 : 0 ≤ L := by omega
 have hL1 : L ≤ 1048576 := by omega
 have HG := hid (show ∀ t : Nat, lft11 left (n + t) = lft11 L t by intro t; unfold lft11; by_cases hh : L < t; rw [if_pos (by omega), if_pos hh]; rw [if_neg (by omega), if_neg hh]; omega)
 have HL := hid hL
 go_enter Try.func123, Try.ntmps123
 go_wp2
 clear hL q
 go_loopw [1, 5] (fun l i wr => ∃ (k : Nat) (x : Int), k ≤ n ∧ i = .int .i64 k ∧ l = .int .i64 x ∧ 0 ≤ x ∧ x ≤ 1048576 ∧ Hid (x = L - sumE (es.take k)) ∧ Hid (Below w.heap.size w wr)) (fun _ i _ => n - (intOf i).toNat)
 case atStart => exact ⟨0, L, Nat.zero_le _, rfl, rfl, hL0, hL1, hid (by simp [sumE]), hid (Below.refl _ _)⟩
 case round =>
  obtain ⟨k, x, hk, rfl, rfl, hx0, hx1, HX, hB⟩ := hrel
  by_cases hlt : k < n
  · have hlt' : (k : Int) < (n : Int) := by omega
    have hk0 : (0 : Int) ≤ (k : Int) := by omega
    obtain ⟨b, off, a, c, rfl, bx0, r0, _, hmx, _⟩ := h.at (k := k) (by omega)
    unfold maxLen at hmx
    have bx := bx0.below hB.out (Nat.le_refl _)
    have HT := hid (sumE_step es k (by omega))
    have HU := hid (sumE_take es (k + 1))
    generalize es.getD k en0 = e at *
    obtain ⟨K, N, F, Z, id⟩ := e
    simp only at bx hmx HT
    obtain ⟨m, hm⟩ : ∃ m, Z.length = m := ⟨_, rfl⟩
    rw [hm] at bx hmx HT
    obtain ⟨y, hy⟩ : ∃ y : Int, lft11 x m = y := ⟨_, rfl⟩
    have HY := hid hy
    have hy2 : (x < (m : Nat) ∧ y = -1) ∨ (0 ≤ y ∧ y ≤ 1048576 ∧ y = x - (m : Nat)) := by
     unfold lft11 at hy
     by_cases hh : x < (m : Nat)
     · rw [if_pos hh] at hy; exact .inl ⟨hh, hy.symm⟩
     · rw [if_neg hh] at hy; exact .inr ⟨by omega, by omega, hy.symm⟩
    have HY2 := hid hy2
    have hst := fun w a m => run_store Try.prog w a (.float .f64 F) m rfl
    obtain ⟨c0, c1, c2, c3, c4⟩ := bx
    clear r0 hm hy hy2 bx0
    go_wp2_with fail
    clear c0 c1 c2 c3 c4
    refine (szEntry K N F a m c id x (by omega) hx0 hx1 wr).mono ?_
    rintro e w1 ⟨rfl, b1⟩
    rw [HY.out]
    have HB := hid (hB.out.trans (b1.mono hB.out.size))
    clear b1
    rcases HY2.out with ⟨hbm, rfl⟩ | ⟨hy0, hy1, hye⟩
    · go_wp2_with fail
      go_ret
      refine ⟨?_, HB.out⟩
      rw [HG.out]
      unfold lft11
      rw [if_pos (by have := HT.out; have := HU.out; have := HX.out; omega)]
      rfl
    · have hy2 : ¬ y < 0 := by omega
      have HYE := hid hye
      clear hye HY2
      go_wp2_with fail
      go_roundw
      case rel => exact ⟨k + 1, y, by omega, by go_num, rfl, hy0, hy1, hid (by have := HT.out; have := HX.out; have := HYE.out; omega), HB⟩
      case measure => simp [intOf]; omega
  · have hlt' : ¬ (k : Int) < (n : Int) := by omega
    go_wp2
    go_ret
    refine ⟨?_, hB.out⟩
    rw [HG.out]
    have := HX.out
    rw [List.take_of_length_le (by omega)] at this
    unfold lft11
    rw [if_neg (by omega), this]
    rfl
set_option maxHeartbeats 6400000 in
theorem eqEntryS {ad ad' : Option Addr} {n : Nat} (cap cap' : Nat) {es : List En} {w : World} (h : ReadsE w ad es) (h' : ReadsE w ad' es) (hl : es.length = n) (hn : n ≤ 2097152) (hs : sumE es ≤ 2097152) :
 Calls Try.prog 34 #[.slice ad n cap, .slice ad' n cap'] w fun e w' => e = .returned (.bool true) ∧ Below w.heap.size w w' := by
 go_enter Try.func34, Try.ntmps34
 go_wp2
 go_loopw [5] (fun i wr => ∃ k : Nat, k ≤ n ∧ i = .int .i64 k ∧ Hid (Below w.heap.size w wr)) (fun i _ => n - (intOf i).toNat)
 case atStart => exact ⟨0, Nat.zero_le _, rfl, hid (Below.refl _ _)⟩
 case round =>
  obtain ⟨k, hk, rfl, hS⟩ := hrel
  by_cases hlt : k < n
  · have hlt' : (k : Int) < (n : Int) := by omega
    have hk0 : (0 : Int) ≤ (k : Int) := by omega
    obtain ⟨b, off, a1, c1, rfl, bx, r1, _, _, hf⟩ := h.at (k := k) (by omega)
    obtain ⟨b', off', a1', c1', rfl, bx', r1', _, _, _⟩ := h'.at (k := k) (by omega)
    have hlen := sumE_at es k (by omega)
    generalize es.getD k en0 = e at *
    obtain ⟨K, N, F, Z, id⟩ := e
    simp only at bx bx' r1 r1' hlen hf
    obtain ⟨zl, hzl⟩ : ∃ zl, Z.length = zl := ⟨_, rfl⟩
    rw [hzl] at bx bx' r1 r1' hlen
    have bD := (Still.drew wr).below wr.heap.size
    have hz2 : zl ≤ 2097152 := by omega
    have BX := hid ((bx.below hS.out (Nat.le_refl _)).below bD (Nat.le_refl _))
    have BY := hid ((bx'.below hS.out (Nat.le_refl _)).below bD (Nat.le_refl _))
    have R1 := hid ((r1.below hS.out (Nat.le_refl _)).below bD (Nat.le_refl _))
    have R3 := hid ((r1'.below hS.out (Nat.le_refl _)).below bD (Nat.le_refl _))
    have HF := hid hf
    clear bx bx' r1 r1' hlen hzl hf
    go_wp2
    replace hS := hid (hS.out.trans (bD.mono hS.out.size))
    clear bD
    refine region_K 99 (fun W => Box5 W b (off + k * 5) K N F (.slice a1 zl c1) id ∧ Box5 W b' (off' + k * 5) K N F (.slice a1' zl c1') id) (by kernel_rfl) ?_ (fun hHeld => ?_)
    · exact ⟨BX.out, BY.out⟩
    generalize wr.drew = v0 at *
    refine anyK_take2 (i := 0) (v := ?v0) rfl (by kernel_rfl) (by kernel_rfl) (by kernel_rfl) (by rfl) (fun _ _ _ h => h) (by rfl) hHeld ?hy0 (some 17) (by rfl) ?rest0
    case hy0 => (intro W hSw; obtain ⟨⟨x0, x1, x2, x3, x4⟩, ⟨y0, y1, y2, y3, y4⟩⟩ := hSw; go_simp; (try with_reducible rfl))
    try simp only [Act.put, List.setIfInBounds_toArray, List.set_cons_succ, List.set_cons_zero]
    refine anyK_take2 (i := 1) (v := ?v1) rfl (by kernel_rfl) (by kernel_rfl) (by kernel_rfl) (by rfl) (fun _ _ _ h => h) (by rfl) hHeld ?hy1 (some 18) (by rfl) ?rest1
    case hy1 => (intro W hSw; obtain ⟨⟨x0, x1, x2, x3, x4⟩, ⟨y0, y1, y2, y3, y4⟩⟩ := hSw; go_simp; (try with_reducible rfl))
    try simp only [Act.put, List.setIfInBounds_toArray, List.set_cons_succ, List.set_cons_zero]
    refine anyK_take2 (i := 2) (v := ?v2) rfl (by kernel_rfl) (by kernel_rfl) (by kernel_rfl) (by rfl) (fun _ _ _ h => h) (by rfl) hHeld ?hy2 (some 19) (by rfl) ?rest2
    case hy2 => (intro W hSw; obtain ⟨⟨x0, x1, x2, x3, x4⟩, ⟨y0, y1, y2, y3, y4⟩⟩ := hSw; go_simp; (try with_reducible rfl))
    try simp only [Act.put, List.setIfInBounds_toArray, List.set_cons_succ, List.set_cons_zero]
    refine anyK_take2 (i := 3) (v := ?v3) rfl (by kernel_rfl) (by kernel_rfl) (by kernel_rfl) (by rfl) (fun _ _ _ h => h) (by rfl) hHeld ?hy3 (some 20) (by rfl) ?rest3
    case hy3 => (intro W hSw; obtain ⟨⟨x0, x1, x2, x3, x4⟩, ⟨y0, y1, y2, y3, y4⟩⟩ := hSw; go_simp; (try with_reducible rfl))
    try simp only [Act.put, List.setIfInBounds_toArray, List.set_cons_succ, List.set_cons_zero]
    refine anyK_take2 (i := 4) (v := ?v4) rfl (by kernel_rfl) (by kernel_rfl) (by kernel_rfl) (by rfl) (fun _ _ _ h => h) (by rfl) hHeld ?hy4 (some 21) (by rfl) ?rest4
    case hy4 => (intro W hSw; obtain ⟨⟨x0, x1, x2, x3, x4⟩, ⟨y0, y1, y2, y3, y4⟩⟩ := hSw; go_simp; (try with_reducible rfl))
    try simp only [Act.put, List.setIfInBounds_toArray, List.set_cons_succ, List.set_cons_zero]
    refine anyK_take2 (i := 5) (v := ?v5) rfl (by kernel_rfl) (by kernel_rfl) (by kernel_rfl) (by rfl) (fun _ _ _ h => h) (by rfl) hHeld ?hy5 (some 22) (by rfl) ?rest5
    case hy5 => (intro W hSw; obtain ⟨⟨x0, x1, x2, x3, x4⟩, ⟨y0, y1, y2, y3, y4⟩⟩ := hSw; go_simp; (try with_reducible rfl))
    try simp only [Act.put, List.setIfInBounds_toArray, List.set_cons_succ, List.set_cons_zero]
    refine anyK_take2 (i := 6) (v := ?v6) rfl (by kernel_rfl) (by kernel_rfl) (by kernel_rfl) (by rfl) (fun _ _ _ h => h) (by rfl) hHeld ?hy6 (some 23) (by rfl) ?rest6
    case hy6 => (intro W hSw; obtain ⟨⟨x0, x1, x2, x3, x4⟩, ⟨y0, y1, y2, y3, y4⟩⟩ := hSw; go_simp; (try with_reducible rfl))
    try simp only [Act.put, List.setIfInBounds_toArray, List.set_cons_succ, List.set_cons_zero]
    refine anyK_take2 (i := 7) (v := ?v7) rfl (by kernel_rfl) (by kernel_rfl) (by kernel_rfl) (by rfl) (fun _ _ _ h => h) (by rfl) hHeld ?hy7 (some 24) (by rfl) ?rest7
    case hy7 => (intro W hSw; obtain ⟨⟨x0, x1, x2, x3, x4⟩, ⟨y0, y1, y2, y3, y4⟩⟩ := hSw; go_simp; (try with_reducible rfl))
    try simp only [Act.put, List.setIfInBounds_toArray, List.set_cons_succ, List.set_cons_zero]
    refine anyK_step (i := 8) (by kernel_rfl) rfl (fun KP hK => ?_)
    go_simp
    refine (eqEntry K N F c1 c1' id HF.out R1.out R3.out hz2).mono ?_
    rintro e u ⟨rfl, b1⟩
    have HS2 := hid (hS.out.trans (b1.mono hS.out.size))
    replace BX := hid (BX.out.below b1 (Nat.le_refl _))
    replace BY := hid (BY.out.below b1 (Nat.le_refl _))
    clear b1
    go_wp2_with fail
    clear hHeld
    refine hK.out _ _ ⟨BX.out, BY.out⟩ (fun hHeld => ?_)
    clear hK KP
    try simp only [Act.put, List.setIfInBounds_toArray, List.set_cons_succ, List.set_cons_zero]
    refine anyK_step (i := 9) (by kernel_rfl) rfl (fun KP hK => ?_)
    go_simp
    clear hHeld
    refine hK.out _ _ ⟨BX.out, BY.out⟩ (fun hHeld => ?_)
    clear hK KP
    try simp only [Act.put, List.setIfInBounds_toArray, List.set_cons_succ, List.set_cons_zero]
    refine anyK_done (by kernel_rfl) ?_ _
    clear hHeld
    go_wp2_with fail
    go_roundw
    case rel => exact ⟨k + 1, by omega, by go_num, HS2⟩
    case measure => simp [intOf]; omega
  · have hlt' : ¬ (k : Int) < (n : Int) := by omega
    go_wp2
    go_ret
    exact ⟨rfl, hS.out⟩
end Go.Proofs.Ytphmlndkjgldkaa
/- The program's ItemOk. -/

namespace Go.Proofs.Ytphmlndkjgldkaa
open Go.RowKit
set_option maxRecDepth 100000 in
set_option maxHeartbeats 1600000 in
theorem impl_ItemOk (K N : Int) (f : Nat) (ad : Option Addr) (n cap : Nat) (hf : f < 18446744073709551616) (hn : n ≤ 2097152) (w : World) :
 Calls Try.prog 112 #[.agg #[.int .i64 K, .int .i64 N, .float .f64 f, .slice ad n cap]] w fun e w' => e = .returned (.bool (okI K N f n)) ∧ Below w.heap.size w w' := by
 have hA : Below w.heap.size w (w.alloc (.cells #[.int .i64 K, .int .i64 N, .float .f64 f, .slice ad n cap] 32)) := (Below.refl _ _).alloc (Nat.le_refl _) _
 have HA := hid hA
 clear hA
 by_cases h1 : K < 0
 · rw [show okI K N f n = false from decide_eq_false (by omega)]
   go_enter Try.func112, Try.ntmps112
   go_wp2
   go_ret
   exact ⟨rfl, HA.out⟩
 by_cases h2 : 3 < K
 · rw [show okI K N f n = false from decide_eq_false (by omega)]
   go_enter Try.func112, Try.ntmps112
   go_wp2
   go_ret
   exact ⟨rfl, HA.out⟩
 by_cases h3 : 40 < n
 · rw [show okI K N f n = false from decide_eq_false (by omega)]
   have h3' : (40 : Int) < (n : Int) := by omega
   go_enter Try.func112, Try.ntmps112
   go_wp2
   go_ret
   exact ⟨rfl, HA.out⟩
 have h3' : ¬ (40 : Int) < (n : Int) := by omega
 by_cases h4 : K ≠ 1 ∧ N ≠ 0
 · rw [show okI K N f n = false from decide_eq_false (by omega)]
   have q1 : (K == 1) = false := by simp [h4.1]
   have q2 : (N == 0) = false := by simp [h4.2]
   go_enter Try.func112, Try.ntmps112
   go_wp2
   go_ret
   exact ⟨rfl, HA.out⟩
 by_cases h5 : K = 1
 · subst h5
   by_cases h6 : f = 0
   · subst h6
     have hz : fbits 0 = 0 := by decide
     by_cases h7 : n = 0
     · subst h7
       rw [show okI 1 N 0 0 = true from decide_eq_true (by omega)]
       go_enter Try.func112, Try.ntmps112
       go_wp2_with fail
       refine (impl_FloatBits 0 hf _).mono ?_
       rintro e w1 ⟨rfl, rfl⟩
       rw [hz]
       go_wp2_with fail
       go_ret
       exact ⟨rfl, HA.out⟩
     · rw [show okI 1 N 0 n = false from decide_eq_false (by omega)]
       have q7 : ((n : Int) == 0) = false := beq_eq_false_iff_ne.2 (by omega)
       go_enter Try.func112, Try.ntmps112
       go_wp2_with fail
       refine (impl_FloatBits 0 hf _).mono ?_
       rintro e w1 ⟨rfl, rfl⟩
       rw [hz]
       go_wp2_with fail
       go_ret
       exact ⟨rfl, HA.out⟩
   · rw [show okI 1 N f n = false from decide_eq_false (by omega)]
     have q6 : ((fbits f : Int) == 0) = false := by have := fbits_ne f h6; simpa using this
     go_enter Try.func112, Try.ntmps112
     go_wp2_with fail
     refine (impl_FloatBits f hf _).mono ?_
     rintro e w1 ⟨rfl, rfl⟩
     go_wp2_with fail
     go_ret
     exact ⟨rfl, HA.out⟩
 have h8 : N = 0 := by omega
 subst h8
 have q1 : (K == 1) = false := by simp [h5]
 by_cases h9 : K = 2
 · subst h9
   by_cases h7 : n = 0
   · subst h7
     rw [show okI 2 0 f 0 = true from decide_eq_true (by omega)]
     go_enter Try.func112, Try.ntmps112
     go_wp2
     go_ret
     exact ⟨rfl, HA.out⟩
   · rw [show okI 2 0 f n = false from decide_eq_false (by omega)]
     have q7 : ((n : Int) == 0) = false := beq_eq_false_iff_ne.2 (by omega)
     go_enter Try.func112, Try.ntmps112
     go_wp2
     go_ret
     exact ⟨rfl, HA.out⟩
 have q9 : (K == 2) = false := by simp [h9]
 by_cases h6 : f = 0
 · subst h6
   have hz : fbits 0 = 0 := by decide
   by_cases h7 : K = 3
   · subst h7
     rw [show okI 3 0 0 n = true from decide_eq_true (by omega)]
     go_enter Try.func112, Try.ntmps112
     go_wp2_with fail
     refine (impl_FloatBits 0 hf _).mono ?_
     rintro e w1 ⟨rfl, rfl⟩
     rw [hz]
     go_wp2_with fail
     go_ret
     exact ⟨rfl, HA.out⟩
   · have h10 : K = 0 := by omega
     subst h10
     by_cases h7 : n = 0
     · subst h7
       rw [show okI 0 0 0 0 = true from decide_eq_true (by omega)]
       go_enter Try.func112, Try.ntmps112
       go_wp2_with fail
       refine (impl_FloatBits 0 hf _).mono ?_
       rintro e w1 ⟨rfl, rfl⟩
       rw [hz]
       go_wp2_with fail
       go_ret
       exact ⟨rfl, HA.out⟩
     · rw [show okI 0 0 0 n = false from decide_eq_false (by omega)]
       have q7 : ((n : Int) == 0) = false := beq_eq_false_iff_ne.2 (by omega)
       go_enter Try.func112, Try.ntmps112
       go_wp2_with fail
       refine (impl_FloatBits 0 hf _).mono ?_
       rintro e w1 ⟨rfl, rfl⟩
       rw [hz]
       go_wp2_with fail
       go_ret
       exact ⟨rfl, HA.out⟩
 · rw [show okI K 0 f n = false from decide_eq_false (by omega)]
   have q6 : ((fbits f : Int) == 0) = false := by have := fbits_ne f h6; simpa using this
   go_enter Try.func112, Try.ntmps112
   go_wp2_with fail
   refine (impl_FloatBits f hf _).mono ?_
   rintro e w1 ⟨rfl, rfl⟩
   go_wp2_with fail
   go_ret
   exact ⟨rfl, HA.out⟩
end Go.Proofs.Ytphmlndkjgldkaa
/- The program's KeyOk. -/

namespace Go.Proofs.Ytphmlndkjgldkaa
open Go.RowKit
theorem fbits_top (f : Nat) : fbits f = 9223372036854775808 ↔ f = 9223372036854775808 := by
 by_cases h : isN f = true
 · rw [fbits, if_pos h]
   constructor
   · intro h'; omega
   · intro h'; subst h'; exact absurd h (by decide)
 · rw [fbits, if_neg h]
set_option maxRecDepth 100000 in
set_option maxHeartbeats 1600000 in
theorem impl_KeyOk (K N : Int) (f : Nat) (ad : Option Addr) (n cap : Nat) (hf : f < 18446744073709551616) (hn : n ≤ 2097152) (w : World) :
 Calls Try.prog 89 #[.agg #[.int .i64 K, .int .i64 N, .float .f64 f, .slice ad n cap]] w fun e w' => e = .returned (.bool (okK K N f n)) ∧ Below w.heap.size w w' := by
 have hI := impl_ItemOk K N f ad n cap hf hn
 have hA : Below w.heap.size w (w.alloc (.cells #[.int .i64 K, .int .i64 N, .float .f64 f, .slice ad n cap] 32)) := (Below.refl _ _).alloc (Nat.le_refl _) _
 have hB := Box.new w K N f ad n cap 32
 by_cases hok : okI K N f n = true
 · rw [hok] at hI
   by_cases hK : K = 0
   · rw [show okK K N f n = false by rw [okK, decide_eq_false (by omega), Bool.and_false]]
     have q : (K != 0) = false := by simp [hK]
     clear hK hok
     go_enter Try.func89, Try.ntmps89
     go_wp2_with fail
     refine (hI _).mono ?_
     rintro e w1 ⟨rfl, b1⟩
     have B := hid (hA.trans (b1.mono hA.size))
     obtain ⟨c0, c1, c2, c3⟩ := hB.below b1 (by simp)
     clear hA b1 hB hI
     go_wp2_with fail
     go_ret
     exact ⟨rfl, B.out⟩
   · have q : (K != 0) = true := by simp [hK]
     by_cases hF : f = 9223372036854775808
     · rw [show okK K N f n = false by rw [okK, decide_eq_false (fun h => h.2 hF), Bool.and_false]]
       have q2 : ((fbits f : Int) != 9223372036854775808) = false := by rw [(fbits_top f).2 hF]; rfl
       clear hK hok hF
       go_enter Try.func89, Try.ntmps89
       go_wp2_with fail
       refine (hI _).mono ?_
       rintro e w1 ⟨rfl, b1⟩
       have B := hid (hA.trans (b1.mono hA.size))
       obtain ⟨c0, c1, c2, c3⟩ := hB.below b1 (by simp)
       clear hA b1 hB hI
       go_wp2_with fail
       refine (impl_FloatBits f hf _).mono ?_
       rintro e w2 ⟨rfl, rfl⟩
       go_wp2_with fail
       go_ret
       exact ⟨rfl, B.out⟩
     · rw [show okK K N f n = true by rw [okK, hok, decide_eq_true ⟨hK, hF⟩]; rfl]
       have q2 : ((fbits f : Int) != 9223372036854775808) = true := by
        have : ¬ fbits f = 9223372036854775808 := fun e => hF ((fbits_top f).1 e)
        simp only [bne_iff_ne]; omega
       clear hK hok hF
       go_enter Try.func89, Try.ntmps89
       go_wp2_with fail
       refine (hI _).mono ?_
       rintro e w1 ⟨rfl, b1⟩
       have B := hid (hA.trans (b1.mono hA.size))
       obtain ⟨c0, c1, c2, c3⟩ := hB.below b1 (by simp)
       clear hA b1 hB hI
       go_wp2_with fail
       refine (impl_FloatBits f hf _).mono ?_
       rintro e w2 ⟨rfl, rfl⟩
       go_wp2_with fail
       go_ret
       exact ⟨rfl, B.out⟩
 · have hok' : okI K N f n = false := by simpa using hok
   rw [show okK K N f n = false by rw [okK, hok', Bool.false_and]]
   rw [hok'] at hI
   clear hok hok'
   go_enter Try.func89, Try.ntmps89
   go_wp2_with fail
   refine (hI _).mono ?_
   rintro e w1 ⟨rfl, b1⟩
   have B := hid (hA.trans (b1.mono hA.size))
   clear hA b1 hB hI
   go_wp2_with fail
   go_ret
   exact ⟨rfl, B.out⟩
end Go.Proofs.Ytphmlndkjgldkaa
/- Bytes as strings: what the conversion gives. No conditions. -/



namespace Go.Proofs.Ytphmlndkjgldkaa
open Go.RowKit
def str (zs : List Int) : ByteArray := ⟨(zs.map fun n => UInt8.ofNat n.toNat).toArray⟩
theorem Reads.str {w : World} {ad : Option Addr} {n : Nat} {zs : List Int} (h : Reads w ad n zs) (cap : Nat) (src : TypeId) (hs : Try.prog.underlying src = some (.slice 5)) (he : Try.prog.underlying 5 = some (.int .u8)) (hd : Try.prog.underlying 9 = some .string) :
 (convert src 9 (.slice ad n cap)).run Try.prog w = .ok (.string (str zs)) w := by
 have hl := h.len
 rcases h.cells with h0 | ⟨b, off, rfl, hc⟩
 · subst h0
   have hz : zs = [] := List.length_eq_zero_iff.1 hl
   subst hz
   cases ad with
   | none => exact run_convert_bytes_nil w src 5 hs he 0 cap 9 hd
   | some a =>
    rw [run_convert_bytes_string w src 9 5 _ 0 cap hs he hd, run_bytesToString w a 0 cap [] (by simp [loadCells, loadCellsFrom])]
    rfl
 · exact run_convert_bytes_arg w src 5 hs he b off n cap zs hl hc 9 hd
end Go.Proofs.Ytphmlndkjgldkaa
/- Bytes as strings: what the conversion gives, and how two such strings are held against each other. -/




namespace Go.Proofs.Ytphmlndkjgldkaa
open Go.RowKit
def us (zs : List Int) : List UInt8 := zs.map fun n => UInt8.ofNat n.toNat
def inB (zs : List Int) : Prop := ∀ i, 0 ≤ zs.getD i 0 ∧ zs.getD i 0 ≤ 255
theorem str_list (zs : List Int) : (str zs).toList = us zs := by
 rw [ByteArray.toList_eq]
 rfl
theorem inB.head {x : Int} {xs : List Int} (h : inB (x :: xs)) : 0 ≤ x ∧ x ≤ 255 := h 0
theorem inB.tail {x : Int} {xs : List Int} (h : inB (x :: xs)) : inB xs := fun i => h (i + 1)
theorem u8_lt (x y : Int) (hx : 0 ≤ x ∧ x ≤ 255) (hy : 0 ≤ y ∧ y ≤ 255) : (UInt8.ofNat x.toNat < UInt8.ofNat y.toNat) ↔ x < y := by
 rw [UInt8.lt_iff_toNat_lt, UInt8.toNat_ofNat', UInt8.toNat_ofNat']
 omega
theorem u8_eq (x y : Int) (hx : 0 ≤ x ∧ x ≤ 255) (hy : 0 ≤ y ∧ y ≤ 255) : (UInt8.ofNat x.toNat = UInt8.ofNat y.toNat) ↔ x = y := by
 rw [← UInt8.toNat_inj, UInt8.toNat_ofNat', UInt8.toNat_ofNat']
 omega
theorem less_txt : ∀ (zs ys : List Int), inB zs → inB ys → Op.bytesLess (us zs) (us ys) = decide (txt zs ys = -1)
 | [], [], _, _ => rfl
 | [], _ :: _, _, _ => rfl
 | _ :: _, [], _, _ => rfl
 | x :: xs, y :: ys, hx, hy => by
  have ih := less_txt xs ys hx.tail hy.tail
  show (decide (UInt8.ofNat x.toNat < UInt8.ofNat y.toNat) || (UInt8.ofNat x.toNat == UInt8.ofNat y.toNat && Op.bytesLess (us xs) (us ys))) = _
  rw [ih]
  have e1 := u8_lt x y hx.head hy.head
  have e2 := u8_eq x y hx.head hy.head
  show _ = decide ((if x < y then -1 else if y < x then 1 else txt xs ys) = -1)
  by_cases h1 : x < y
  · rw [if_pos h1, decide_eq_true (e1.2 h1)]; rfl
  · rw [if_neg h1, decide_eq_false (fun h => h1 (e1.1 h))]
    by_cases h2 : y < x
    · rw [if_pos h2, beq_eq_false_iff_ne.2 (fun h => by have := e2.1 h; omega)]; rfl
    · rw [if_neg h2, beq_iff_eq.2 (e2.2 (by omega))]; simp
theorem eq_txt : ∀ (zs ys : List Int), inB zs → inB ys → (us zs == us ys) = decide (txt zs ys = 0)
 | [], [], _, _ => rfl
 | [], _ :: _, _, _ => rfl
 | _ :: _, [], _, _ => rfl
 | x :: xs, y :: ys, hx, hy => by
  have ih := eq_txt xs ys hx.tail hy.tail
  show (UInt8.ofNat x.toNat == UInt8.ofNat y.toNat && (us xs == us ys)) = _
  rw [ih]
  have e2 := u8_eq x y hx.head hy.head
  show _ = decide ((if x < y then -1 else if y < x then 1 else txt xs ys) = 0)
  by_cases h1 : x < y
  · rw [if_pos h1, beq_eq_false_iff_ne.2 (fun h => by have := e2.1 h; omega)]; rfl
  · rw [if_neg h1]
    by_cases h2 : y < x
    · rw [if_pos h2, beq_eq_false_iff_ne.2 (fun h => by have := e2.1 h; omega)]; rfl
    · rw [if_neg h2, beq_iff_eq.2 (e2.2 (by omega))]; simp
theorem txt_zero : ∀ (zs ys : List Int), txt zs ys = 0 ↔ zs = ys
 | [], [] => by simp [txt]
 | [], _ :: _ => by simp [txt]
 | _ :: _, [] => by simp [txt]
 | x :: xs, y :: ys => by
  have ih := txt_zero xs ys
  rw [txt]
  by_cases h1 : x < y
  · rw [if_pos h1]
    constructor
    · intro h; omega
    · intro h; have := (List.cons.inj h).1; omega
  · rw [if_neg h1]
    by_cases h2 : y < x
    · rw [if_pos h2]
      constructor
      · intro h; omega
      · intro h; have := (List.cons.inj h).1; omega
    · rw [if_neg h2, ih]
      have : x = y := by omega
      subst this
      simp
theorem txt_range : ∀ (zs ys : List Int), txt zs ys = -1 ∨ txt zs ys = 0 ∨ txt zs ys = 1
 | [], [] => .inr (.inl rfl)
 | [], _ :: _ => .inl rfl
 | _ :: _, [] => .inr (.inr rfl)
 | x :: xs, y :: ys => by
  have ih := txt_range xs ys
  rw [txt]
  by_cases h1 : x < y
  · rw [if_pos h1]; exact .inl rfl
  · rw [if_neg h1]
    by_cases h2 : y < x
    · rw [if_pos h2]; exact .inr (.inr rfl)
    · rw [if_neg h2]; exact ih
end Go.Proofs.Ytphmlndkjgldkaa
/- The program's compareOrdered, at numbers and at texts, and the library's Or. -/

namespace Go.Proofs.Ytphmlndkjgldkaa
open Go.RowKit
def ci (x y : Int) : Int := if x < y then -1 else if y < x then 1 else 0
set_option maxRecDepth 100000 in
theorem impl_ordInt (x y : Int) (w : World) :
 Calls Try.prog 116 #[.int .i64 x, .int .i64 y] w fun e w' => e = .returned (.int .i64 (ci x y)) ∧ w' = w := by
 by_cases h1 : x < y
 · rw [show ci x y = -1 by rw [ci, if_pos h1]]
   go_enter Try.func116, Try.ntmps116
   go_wp2
   go_ret
   exact ⟨rfl, rfl⟩
 · by_cases h2 : y < x
   · rw [show ci x y = 1 by rw [ci, if_neg h1, if_pos h2]]
     go_enter Try.func116, Try.ntmps116
     go_wp2
     go_ret
     exact ⟨rfl, rfl⟩
   · rw [show ci x y = 0 by rw [ci, if_neg h1, if_neg h2]]
     go_enter Try.func116, Try.ntmps116
     go_wp2
     go_ret
     exact ⟨rfl, rfl⟩
set_option maxRecDepth 100000 in
theorem impl_ordStr (zs ys : List Int) (hz : inB zs) (hy : inB ys) (w : World) :
 Calls Try.prog 122 #[.string (str zs), .string (str ys)] w fun e w' => e = .returned (.int .i64 (txt zs ys)) ∧ w' = w := by
 have e1 := less_txt zs ys hz hy
 have e2 := eq_txt zs ys hz hy
 rw [← str_list, ← str_list] at e1 e2
 have hr := txt_range zs ys
 generalize str zs = s at *
 generalize str ys = t at *
 clear hz hy
 rcases hr with hr | hr | hr
 · rw [hr] at e1 e2 ⊢
   rw [show decide ((-1 : Int) = -1) = true from rfl] at e1
   clear e2 hr
   go_enter Try.func122, Try.ntmps122
   go_wp2
   go_ret
   exact ⟨rfl, rfl⟩
 · rw [hr] at e1 e2 ⊢
   rw [show decide ((0 : Int) = -1) = false from rfl] at e1
   rw [show decide ((0 : Int) = 0) = true from rfl] at e2
   clear hr
   go_enter Try.func122, Try.ntmps122
   go_wp2
   go_ret
   exact ⟨rfl, rfl⟩
 · rw [hr] at e1 e2 ⊢
   rw [show decide ((1 : Int) = -1) = false from rfl] at e1
   rw [show decide ((1 : Int) = 0) = false from rfl] at e2
   clear hr
   go_enter Try.func122, Try.ntmps122
   go_wp2
   go_ret
   exact ⟨rfl, rfl⟩
theorem upto {p : Nat → Prop} {k : Nat} (h : ∀ j, j < k → p j) (hk : p k) : ∀ j, j < k + 1 → p j := by
 intro j hj
 by_cases e : j = k
 · subst e; exact hk
 · exact h j (by omega)
def or4 (a b c d : Int) : Int := if a ≠ 0 then a else if b ≠ 0 then b else if c ≠ 0 then c else d
set_option maxRecDepth 100000 in
set_option maxHeartbeats 1600000 in
theorem cmp_or (a b c d : Int) (g : Nat) (w : World) (c0 : w.cell? ⟨g, 0, none⟩ = some (.int .i64 a)) (c1 : w.cell? ⟨g, 1, none⟩ = some (.int .i64 b)) (c2 : w.cell? ⟨g, 2, none⟩ = some (.int .i64 c)) (c3 : w.cell? ⟨g, 3, none⟩ = some (.int .i64 d)) :
 Calls Try.prog 115 #[.slice (some ⟨g, 0, none⟩) 4 4] w fun e w' => e = .returned (.int .i64 (or4 a b c d)) ∧ w' = w := by
 have hc : ∀ k : Nat, k < 4 → w.cell? ⟨g, k, none⟩ = some (.int .i64 ([a, b, c, d].getD k 0)) := by
  intro k hk
  match k, hk with
  | 0, _ => exact c0
  | 1, _ => exact c1
  | 2, _ => exact c2
  | 3, _ => exact c3
 have hor : ∀ k : Nat, k < 4 → (∀ j, j < k → [a, b, c, d].getD j 0 = 0) → [a, b, c, d].getD k 0 ≠ 0 → [a, b, c, d].getD k 0 = or4 a b c d := by
  intro k hk h0 h1
  unfold or4
  match k, hk with
  | 0, _ => simp at h1; simp [h1]
  | 1, _ => have := h0 0 (by omega); simp at h1 this; simp [h1, this]
  | 2, _ => have := h0 0 (by omega); have := h0 1 (by omega); simp at *; simp_all
  | 3, _ => have := h0 0 (by omega); have := h0 1 (by omega); have := h0 2 (by omega); simp at *; simp_all
 have hend : (∀ j, j < 4 → [a, b, c, d].getD j 0 = 0) → or4 a b c d = 0 := by
  intro h
  have h0 := h 0 (by omega)
  have h1 := h 1 (by omega)
  have h2 := h 2 (by omega)
  have h3 := h 3 (by omega)
  simp at h0 h1 h2 h3
  simp [or4, h0, h1, h2, h3]
 generalize or4 a b c d = o at *
 generalize [a, b, c, d] = xs at *
 have HO := hid hor
 have HE := hid hend
 clear c0 c1 c2 c3 hor hend
 go_enter Try.func115, Try.ntmps115
 go_wp2
 go_loopw [8] (fun i wr => ∃ k : Nat, k ≤ 4 ∧ i = .int .i64 k ∧ Hid (∀ j, j < k → xs.getD j 0 = 0) ∧ wr = w) (fun i _ => 4 - (intOf i).toNat)
 case atStart => exact ⟨0, by omega, rfl, hid (fun j hj => by omega), rfl⟩
 case round =>
  obtain ⟨k, hk, rfl, HZ, rfl⟩ := hrel
  by_cases hlt : k < 4
  · have c1 := hc k hlt
    have hlt' : (k : Int) < 4 := by omega
    have hk0 : (0 : Int) ≤ (k : Int) := by omega
    have HO1 := hid (HO.out k hlt HZ.out)
    obtain ⟨y, hy⟩ : ∃ y, xs.getD k 0 = y := ⟨_, rfl⟩
    rw [hy] at c1 HO1
    have HY := hid hy
    clear hy hc
    by_cases h0 : y = 0
    · subst h0
      go_wp2
      go_roundw
      case rel => exact ⟨k + 1, by omega, by go_num, hid (upto (p := fun j => xs.getD j 0 = 0) HZ.out HY.out), by first | trivial | rfl⟩
      case measure => simp [intOf]; omega
    · have q : (y != 0) = true := by simp [h0]
      have HQ := hid (HO1.out h0)
      go_wp2
      go_ret
      exact ⟨by rw [HQ.out]; rfl, rfl⟩
  · have hk4 : k = 4 := by omega
    subst hk4
    have HQ := hid (HE.out HZ.out)
    go_wp2
    go_ret
    exact ⟨by rw [HQ.out]; rfl, rfl⟩
end Go.Proofs.Ytphmlndkjgldkaa
/- The program's ItemCompare. -/



namespace Go.Proofs.Ytphmlndkjgldkaa
open Go.RowKit
theorem cell_oldx {w : World} (o : Obj) {p : Addr} {v : Value} (h : w.cell? p = some v) : (w.alloc o).cell? p = some v := by
 have hl := World.block_lt_of_cell? w _ h
 have hb : Below w.heap.size w (w.alloc o) := (Below.refl _ _).alloc (Nat.le_refl _) _
 rw [hb.cell hl]; exact h
theorem new4 (w : World) (a b c d : Value) (t : TypeId) : (w.alloc (.cells #[a, b, c, d] t)).cell? ⟨w.heap.size, 0, none⟩ = some a ∧ (w.alloc (.cells #[a, b, c, d] t)).cell? ⟨w.heap.size, 1, none⟩ = some b ∧ (w.alloc (.cells #[a, b, c, d] t)).cell? ⟨w.heap.size, 2, none⟩ = some c ∧ (w.alloc (.cells #[a, b, c, d] t)).cell? ⟨w.heap.size, 3, none⟩ = some d := by
 have h := heap_alloc_new w (.cells #[a, b, c, d] t)
 refine ⟨?_, ?_, ?_, ?_⟩ <;> (rw [cell_of_row _ _ _ _ _ _ h]; rfl)
theorem or_cmp (K N K' N' : Int) (f f' n n' : Nat) (zs zs' : List Int) (h : okI K N f n = true) (h' : okI K' N' f' n' = true) :
 or4 (ci K K') (ci N N') (cmp3 (frank f) (frank f')) (txt zs zs') = cmpI K N f n zs K' N' f' n' zs' := by
 have c0 : ¬ (okI K N f n = false ∨ okI K' N' f' n' = false) := by rw [h, h']; simp
 unfold or4 cmpI
 rw [if_neg c0]
 rcases Int.lt_trichotomy K K' with h1 | h1 | h1
 · rw [show ci K K' = -1 by rw [ci, if_pos h1], if_pos (by decide), if_pos (by omega), if_pos h1]
 · rw [show ci K K' = 0 by rw [ci, if_neg (by omega), if_neg (by omega)], if_neg (by decide), if_neg (show ¬ K ≠ K' from fun e => e h1)]
   rcases Int.lt_trichotomy N N' with h2 | h2 | h2
   · rw [show ci N N' = -1 by rw [ci, if_pos h2], if_pos (by decide), if_pos (by omega), if_pos h2]
   · rw [show ci N N' = 0 by rw [ci, if_neg (by omega), if_neg (by omega)], if_neg (by decide), if_neg (show ¬ N ≠ N' from fun e => e h2)]
   · rw [show ci N N' = 1 by rw [ci, if_neg (by omega), if_pos h2], if_pos (by decide), if_pos (by omega), if_neg (by omega)]
 · rw [show ci K K' = 1 by rw [ci, if_neg (by omega), if_pos h1], if_pos (by decide), if_pos (by omega), if_neg (by omega)]
set_option maxRecDepth 100000 in
set_option maxHeartbeats 3200000 in
theorem impl_ItemCompare (K N K' N' : Int) (f f' : Nat) {ad ad' : Option Addr} {n n' : Nat} (cap cap' : Nat) {zs zs' : List Int} {w : World} (hf : f < 18446744073709551616) (hf' : f' < 18446744073709551616)
 (h : Reads w ad n zs) (h' : Reads w ad' n' zs') (hn : n ≤ 2097152) (hn' : n' ≤ 2097152) :
 Calls Try.prog 100 #[.agg #[.int .i64 K, .int .i64 N, .float .f64 f, .slice ad n cap], .agg #[.int .i64 K', .int .i64 N', .float .f64 f', .slice ad' n' cap']] w fun e w' => e = .returned (.int .i64 (cmpI K N f n zs K' N' f' n' zs')) ∧ Below w.heap.size w w' := by
 have hB := two w (.cells #[.int .i64 K, .int .i64 N, .float .f64 f, .slice ad n cap] 32) (.cells #[.int .i64 K', .int .i64 N', .float .f64 f', .slice ad' n' cap'] 32)
 have z1 := alloc_size w (.cells #[.int .i64 K, .int .i64 N, .float .f64 f, .slice ad n cap] 32)
 have z2 := alloc_size (w.alloc (.cells #[.int .i64 K, .int .i64 N, .float .f64 f, .slice ad n cap] 32)) (.cells #[.int .i64 K', .int .i64 N', .float .f64 f', .slice ad' n' cap'] 32)
 have x1 := (Box.new w K N f ad n cap 32).below ((Below.refl (w.heap.size + 1) _).alloc (by omega) (.cells #[.int .i64 K', .int .i64 N', .float .f64 f', .slice ad' n' cap'] 32)) (by omega)
 have x2 := Box.new (w.alloc (.cells #[.int .i64 K, .int .i64 N, .float .f64 f, .slice ad n cap] 32)) K' N' f' ad' n' cap' 32
 rw [z1] at x2 z2
 have H1 := h.below hB (Nat.le_refl _)
 have H2 := h'.below hB (Nat.le_refl _)
 have e1 := impl_ItemOk K N f ad n cap hf hn
 have e2 := impl_ItemOk K' N' f' ad' n' cap' hf' hn'
 by_cases o1 : okI K N f n = false
 · rw [show cmpI K N f n zs K' N' f' n' zs' = -2 by rw [cmpI, if_pos (.inl o1)]]
   rw [o1] at e1
   go_enter Try.func100, Try.ntmps100
   go_wp2_with fail
   refine (e1 _).mono ?_
   rintro e w1 ⟨rfl, b1⟩
   have BB := hid (hB.trans (b1.mono hB.size))
   clear hB b1 H1 H2 x1 x2 z1 z2
   go_wp2_with fail
   go_ret
   exact ⟨rfl, BB.out⟩
 have o1' : okI K N f n = true := by simpa using o1
 rw [o1'] at e1
 by_cases o2 : okI K' N' f' n' = false
 · rw [show cmpI K N f n zs K' N' f' n' zs' = -2 by rw [cmpI, if_pos (.inr o2)]]
   rw [o2] at e2
   go_enter Try.func100, Try.ntmps100
   go_wp2_with fail
   refine (e1 _).mono ?_
   rintro e w1 ⟨rfl, b1⟩
   have B1 := hB.trans (b1.mono hB.size)
   have y2 := x2.below b1 (by omega)
   obtain ⟨d0, d1, d2, d3⟩ := y2
   clear hB b1 H1 H2 x1 x2 z1 z2
   go_wp2_with fail
   clear d0 d1 d2 d3
   refine (e2 _).mono ?_
   rintro e w2 ⟨rfl, b2⟩
   have BB := hid (B1.trans (b2.mono B1.size))
   clear b2 B1
   go_wp2_with fail
   go_ret
   exact ⟨rfl, BB.out⟩
 have o2' : okI K' N' f' n' = true := by simpa using o2
 rw [o2'] at e2
 rw [← or_cmp K N K' N' f f' n n' zs zs' o1' o2']
 clear o1 o2 o1' o2'
 go_enter Try.func100, Try.ntmps100
 go_wp2_with fail
 refine (e1 _).mono ?_
 rintro e w1 ⟨rfl, b1⟩
 have B1 := hB.trans (b1.mono hB.size)
 have y1 := x1.below b1 (by omega)
 have y2 := x2.below b1 (by omega)
 have zz := b1.size
 have h1 := H1.below b1 (Nat.le_refl _)
 have h2 := H2.below b1 (Nat.le_refl _)
 obtain ⟨d0, d1, d2, d3⟩ := y2
 have Y1 := hid y1
 have Y2 := hid (x2.below b1 (by omega))
 have ZZ := hid (show w.heap.size + 1 < w1.heap.size by omega)
 clear hB b1 H1 H2 x1 x2 z1 z2 y1 zz
 go_wp2_with fail
 clear d0 d1 d2 d3
 refine (e2 _).mono ?_
 rintro e w2 ⟨rfl, b2⟩
 have BB := B1.trans (b2.mono B1.size)
 have h3 := h1.below b2 (Nat.le_refl _)
 have h4 := h2.below b2 (Nat.le_refl _)
 have z := ZZ.out
 obtain ⟨c0, c1, c2, c3⟩ := Y1.out.below b2 (by omega)
 obtain ⟨d0, d1, d2, d3⟩ := Y2.out.below b2 (by omega)
 have ZB := b2.size
 have ZZ2 := hid (show w.heap.size + 1 < w2.heap.size by omega)
 have s1 : ∀ W, Below w2.heap.size w2 W → (convert 22 9 (.slice ad n cap)).run Try.prog W = .ok (.string (str zs)) W := fun W b => (h3.below b (Nat.le_refl _)).str cap 22 Try.underlying22 Try.underlying5 Try.underlying9
 have s2 : ∀ W, Below w2.heap.size w2 W → (convert 22 9 (.slice ad' n' cap')).run Try.prog W = .ok (.string (str zs')) W := fun W b => (h4.below b (Nat.le_refl _)).str cap' 22 Try.underlying22 Try.underlying5 Try.underlying9
 have S1 := hid s1
 have S2 := hid s2
 clear s1 s2
 have D1 : Below w2.heap.size w2 w2.drew := (Still.drewN w2 1).below w2.heap.size
 have HD := hid D1
 clear D1
 have i1 : inB zs := h.bd
 have i2 : inB zs' := h'.bd
 have HB := hid BB
 clear b2 B1 h1 h2 z ZB BB Y1 Y2 ZZ h3 h4 h h'
 go_wp2_with fail
 go_region_held3 (fun W => (W.cell? ⟨w.heap.size, 0, none⟩ = some (.int .i64 K) ∧ W.cell? ⟨w.heap.size, 1, none⟩ = some (.int .i64 N) ∧ W.cell? ⟨w.heap.size, 2, none⟩ = some (.float .f64 f) ∧ W.cell? ⟨w.heap.size, 3, none⟩ = some (.slice ad n cap)) ∧ W.cell? ⟨w.heap.size + 1, 0, none⟩ = some (.int .i64 K') ∧ W.cell? ⟨w.heap.size + 1, 1, none⟩ = some (.int .i64 N') ∧ W.cell? ⟨w.heap.size + 1, 2, none⟩ = some (.float .f64 f') ∧ W.cell? ⟨w.heap.size + 1, 3, none⟩ = some (.slice ad' n' cap') ∧ (convert 22 9 (.slice ad n cap)).run Try.prog W = .ok (.string (str zs)) W ∧ (convert 22 9 (.slice ad' n' cap')).run Try.prog W = .ok (.string (str zs')) W)
  (first
   | exact ⟨⟨by simpa using c0, by simpa using c1, by simpa using c2, by simpa using c3⟩, by simpa using d0, by simpa using d1, by simpa using d2, by simpa using d3, S1.out _ (by first | exact Below.refl _ _ | exact HD.out | exact (Still.drewN w2 _).below _), S2.out _ (by first | exact Below.refl _ _ | exact HD.out | exact (Still.drewN w2 _).below _)⟩
   | exact ⟨⟨cell_oldx _ (by simpa using c0), cell_oldx _ (by simpa using c1), cell_oldx _ (by simpa using c2), cell_oldx _ (by simpa using c3)⟩, cell_oldx _ (by simpa using d0), cell_oldx _ (by simpa using d1), cell_oldx _ (by simpa using d2), cell_oldx _ (by simpa using d3), S1.out _ (by first | exact HD.out.alloc (Nat.le_refl _) _ | exact (Below.refl _ _).alloc (Nat.le_refl _) _), S2.out _ (by first | exact HD.out.alloc (Nat.le_refl _) _ | exact (Below.refl _ _).alloc (Nat.le_refl _) _)⟩)
  (first
  | (go_at_call 116; refine (impl_ordInt _ _ _).mono ?_; rintro e w3 ⟨rfl, rfl⟩)
  | (go_at_call 121; refine (impl_FloatCompare _ _ hf hf' _).mono ?_; rintro e w3 ⟨rfl, rfl⟩)
  | (go_at_call 122; refine (impl_ordStr _ _ i1 i2 _).mono ?_; rintro e w3 ⟨rfl, rfl⟩)
  | (go_at_call 115; refine (cmp_or (ci K K') (ci N N') (cmp3 (frank f) (frank f')) (txt zs zs') w2.heap.size _ (new4 w2.drew _ _ _ _ 3).1 (new4 w2.drew _ _ _ _ 3).2.1 (new4 w2.drew _ _ _ _ 3).2.2.1 (new4 w2.drew _ _ _ _ 3).2.2.2).mono ?_; rintro e w3 ⟨rfl, rfl⟩))
 go_wp2_with fail
 go_ret
 refine ⟨rfl, HB.out.trans ?_⟩
 exact ((Below.refl _ w2).alloc (by have := ZZ2.out; omega) _).trans ((Still.drewN _ 1).below _)
end Go.Proofs.Ytphmlndkjgldkaa
/- Entries in order, both sides: what is one, which is less. Conditions: texts of at most 2^21 bytes. -/



namespace Go.Proofs.Ytphmlndkjgldkaa
open Go.RowKit
set_option maxRecDepth 100000
def entB (K N : Int) (f n : Nat) (id : Int) : Bool := okK K N f n && decide (0 ≤ id ∧ id ≤ 255)
def entOk (e : En) : Bool := entB e.K e.N e.F e.Z.length e.id
def cmpE (a b : En) : Int := cmpI a.K a.N a.F a.Z.length a.Z b.K b.N b.F b.Z.length b.Z
def ltB (c a b : Int) : Bool := decide (c < 0 ∨ (c = 0 ∧ a < b))
def ltE (a b : En) : Bool := ltB (cmpE a b) a.id b.id
theorem spec_in11 (n lo hi : Int) (w : World) : Calls Try.prog 105 #[.int .i64 n, .int .i64 lo, .int .i64 hi] w fun e w' => e = .returned (.bool (decide (lo ≤ n ∧ n ≤ hi))) ∧ w' = w := by
 by_cases h1 : lo ≤ n
 · by_cases h2 : n ≤ hi
   · rw [decide_eq_true ⟨h1, h2⟩]
     go_enter Try.func105, Try.ntmps105
     go_wp2
     go_ret
     exact ⟨rfl, rfl⟩
   · rw [decide_eq_false (fun q => h2 q.2)]
     go_enter Try.func105, Try.ntmps105
     go_wp2
     go_ret
     exact ⟨rfl, rfl⟩
 · rw [decide_eq_false (fun q => h1 q.1)]
   go_enter Try.func105, Try.ntmps105
   go_wp2
   go_ret
   exact ⟨rfl, rfl⟩
theorem impl_in11 (n lo hi : Int) (w : World) : Calls Try.prog 84 #[.int .i64 n, .int .i64 lo, .int .i64 hi] w fun e w' => e = .returned (.bool (decide (lo ≤ n ∧ n ≤ hi))) ∧ w' = w := by
 by_cases h1 : lo ≤ n
 · by_cases h2 : n ≤ hi
   · rw [decide_eq_true ⟨h1, h2⟩]
     go_enter Try.func84, Try.ntmps84
     go_wp2
     go_ret
     exact ⟨rfl, rfl⟩
   · rw [decide_eq_false (fun q => h2 q.2)]
     go_enter Try.func84, Try.ntmps84
     go_wp2
     go_ret
     exact ⟨rfl, rfl⟩
 · rw [decide_eq_false (fun q => h1 q.1)]
   go_enter Try.func84, Try.ntmps84
   go_wp2
   go_ret
   exact ⟨rfl, rfl⟩
set_option maxHeartbeats 1600000 in
theorem spec_entry (K N : Int) (f : Nat) (ad : Option Addr) (n cap : Nat) (id : Int) (hf : f < 18446744073709551616) (hn : n ≤ 2097152) (w : World) :
 Calls Try.prog 79 #[.agg #[.int .i64 K, .int .i64 N, .float .f64 f, .slice ad n cap, .int .i64 id]] w fun e w' => e = .returned (.bool (entB K N f n id)) ∧ Below w.heap.size w w' := by
 have hst := fun w a m => run_store Try.prog w a (.float .f64 f) m rfl
 have HB := hid (Below.alloc1 w (.cells #[.int .i64 K, .int .i64 N, .float .f64 f, .slice ad n cap, .int .i64 id] 35))
 have R0 := hid (heap_alloc_new w (.cells #[.int .i64 K, .int .i64 N, .float .f64 f, .slice ad n cap, .int .i64 id] 35))
 have Z0 := hid (alloc_size w (.cells #[.int .i64 K, .int .i64 N, .float .f64 f, .slice ad n cap, .int .i64 id] 35))
 go_enter Try.func79, Try.ntmps79
 go_wp2_with fail
 refine (spec_KeyOk K N f ad n cap hf hn _).mono ?_
 rintro e w1 ⟨rfl, b⟩
 have z := Z0.out
 have c4 : w1.cell? ⟨w.heap.size, 4, none⟩ = some (.int .i64 id) := by rw [cell_of_row _ _ _ _ _ _ ((b.block w.heap.size (by omega)).trans R0.out)]; rfl
 replace HB := hid (HB.out.trans (b.mono HB.out.size))
 have HE := hid (show entB K N f n id = (okK K N f n && decide (0 ≤ id ∧ id ≤ 255)) from rfl)
 clear b z
 cases hk : okK K N f n with
 | false =>
  rw [hk] at HE
  go_wp2_with fail
  go_ret
  exact ⟨by rw [HE.out]; rfl, HB.out⟩
 | true =>
  rw [hk] at HE
  go_wp2_with fail
  refine (spec_in11 id 0 255 w1).mono ?_
  rintro e w2 ⟨rfl, e1⟩
  subst w2
  obtain ⟨S, hS⟩ : ∃ S, decide (0 ≤ id ∧ id ≤ 255) = S := ⟨_, rfl⟩
  rw [hS] at HE
  rw [hS]
  clear c4 hS
  go_wp2_with fail
  go_ret
  exact ⟨by rw [HE.out]; simp, HB.out⟩
set_option maxHeartbeats 1600000 in
theorem impl_entry (K N : Int) (f : Nat) (ad : Option Addr) (n cap : Nat) (id : Int) (hf : f < 18446744073709551616) (hn : n ≤ 2097152) (w : World) :
 Calls Try.prog 53 #[.agg #[.int .i64 K, .int .i64 N, .float .f64 f, .slice ad n cap, .int .i64 id]] w fun e w' => e = .returned (.bool (entB K N f n id)) ∧ Below w.heap.size w w' := by
 have hst := fun w a m => run_store Try.prog w a (.float .f64 f) m rfl
 have HB := hid (Below.alloc1 w (.cells #[.int .i64 K, .int .i64 N, .float .f64 f, .slice ad n cap, .int .i64 id] 35))
 have R0 := hid (heap_alloc_new w (.cells #[.int .i64 K, .int .i64 N, .float .f64 f, .slice ad n cap, .int .i64 id] 35))
 have Z0 := hid (alloc_size w (.cells #[.int .i64 K, .int .i64 N, .float .f64 f, .slice ad n cap, .int .i64 id] 35))
 go_enter Try.func53, Try.ntmps53
 go_wp2_with fail
 refine (impl_KeyOk K N f ad n cap hf hn _).mono ?_
 rintro e w1 ⟨rfl, b⟩
 have z := Z0.out
 have c4 : w1.cell? ⟨w.heap.size, 4, none⟩ = some (.int .i64 id) := by rw [cell_of_row _ _ _ _ _ _ ((b.block w.heap.size (by omega)).trans R0.out)]; rfl
 replace HB := hid (HB.out.trans (b.mono HB.out.size))
 have HE := hid (show entB K N f n id = (okK K N f n && decide (0 ≤ id ∧ id ≤ 255)) from rfl)
 clear b z
 cases hk : okK K N f n with
 | false =>
  rw [hk] at HE
  go_wp2_with fail
  go_ret
  exact ⟨by rw [HE.out]; rfl, HB.out⟩
 | true =>
  rw [hk] at HE
  go_wp2_with fail
  refine (impl_in11 id 0 255 w1).mono ?_
  rintro e w2 ⟨rfl, e1⟩
  subst w2
  obtain ⟨S, hS⟩ : ∃ S, decide (0 ≤ id ∧ id ≤ 255) = S := ⟨_, rfl⟩
  rw [hS] at HE
  rw [hS]
  clear c4 hS
  go_wp2_with fail
  go_ret
  exact ⟨by rw [HE.out]; simp, HB.out⟩
set_option maxHeartbeats 1600000 in
theorem spec_less (K N : Int) (f : Nat) {ad : Option Addr} {n : Nat} (cap : Nat) (id : Int) (K' N' : Int) (f' : Nat) {ad' : Option Addr} {n' : Nat} (cap' : Nat) (id' : Int) {zs zs' : List Int} {w : World} (hf : f < 18446744073709551616) (hf' : f' < 18446744073709551616) (h : Reads w ad n zs) (h' : Reads w ad' n' zs') (hn : n ≤ 2097152) (hn' : n' ≤ 2097152) :
 Calls Try.prog 82 #[.agg #[.int .i64 K, .int .i64 N, .float .f64 f, .slice ad n cap, .int .i64 id], .agg #[.int .i64 K', .int .i64 N', .float .f64 f', .slice ad' n' cap', .int .i64 id']] w fun e w' => e = .returned (.bool (ltB (cmpI K N f n zs K' N' f' n' zs') id id')) ∧ Below w.heap.size w w' := by
 have hst := fun w a m => run_store Try.prog w a (.float .f64 f) m rfl
 have hst' := fun w a m => run_store Try.prog w a (.float .f64 f') m rfl
 have hB := two w (.cells #[.int .i64 K, .int .i64 N, .float .f64 f, .slice ad n cap, .int .i64 id] 35) (.cells #[.int .i64 K', .int .i64 N', .float .f64 f', .slice ad' n' cap', .int .i64 id'] 35)
 obtain ⟨R1, R2, z⟩ := two_rows11 w (.cells #[.int .i64 K, .int .i64 N, .float .f64 f, .slice ad n cap, .int .i64 id] 35) (.cells #[.int .i64 K', .int .i64 N', .float .f64 f', .slice ad' n' cap', .int .i64 id'] 35)
 have HB := hid hB
 have H1 := hid (h.below hB (Nat.le_refl _))
 have H2 := hid (h'.below hB (Nat.le_refl _))
 have HR1 := hid R1
 have HR2 := hid R2
 have HZ := hid z
 clear hB R1 R2 z h h'
 go_enter Try.func82, Try.ntmps82
 go_wp2_with fail
 refine (spec_ItemCompare K N K' N' f f' cap cap' hf hf' H1.out H2.out hn hn').mono ?_
 rintro e w1 ⟨rfl, b⟩
 have hz := HZ.out
 have c1 : w1.cell? ⟨w.heap.size, 4, none⟩ = some (.int .i64 id) := by rw [cell_of_row _ _ _ _ _ _ ((b.block w.heap.size (by omega)).trans HR1.out)]; rfl
 have c2 : w1.cell? ⟨w.heap.size + 1, 4, none⟩ = some (.int .i64 id') := by rw [cell_of_row _ _ _ _ _ _ ((b.block (w.heap.size + 1) (by omega)).trans HR2.out)]; rfl
 replace HB := hid (HB.out.trans (b.mono HB.out.size))
 obtain ⟨C, hC⟩ : ∃ C, cmpI K N f n zs K' N' f' n' zs' = C := ⟨_, rfl⟩
 rw [hC]
 have HC := hid hC
 clear b hz hC HR1 HR2 HZ
 by_cases h1 : C < 0
 · have HL := hid (show ltB C id id' = true from decide_eq_true (.inl h1))
   go_wp2_with fail
   go_ret
   exact ⟨by rw [HC.out, HL.out]; rfl, HB.out⟩
 · by_cases h2 : C = 0
   · by_cases h3 : id < id'
     · have HL := hid (show ltB C id id' = true from decide_eq_true (.inr ⟨h2, h3⟩))
       subst h2
       go_wp2_with fail
       go_ret
       exact ⟨by rw [HC.out, HL.out]; rfl, HB.out⟩
     · have HL := hid (show ltB C id id' = false from decide_eq_false (fun q => by omega))
       subst h2
       go_wp2_with fail
       go_ret
       exact ⟨by rw [HC.out, HL.out]; simp; omega, HB.out⟩
   · have HL := hid (show ltB C id id' = false from decide_eq_false (fun q => by omega))
     go_wp2_with fail
     go_ret
     exact ⟨by rw [HC.out, HL.out]; simp; omega, HB.out⟩
def cmpZ (x y : Int) : Int := if x < y then -1 else if y < x then 1 else 0
set_option maxHeartbeats 1600000 in
theorem impl_ordI (x y : Int) (w : World) : Calls Try.prog 116 #[.int .i64 x, .int .i64 y] w fun e w' => e = .returned (.int .i64 (cmpZ x y)) ∧ w' = w := by
 unfold cmpZ
 by_cases h1 : x < y
 · rw [if_pos h1]
   go_enter Try.func116, Try.ntmps116
   go_wp2
   go_ret
   exact ⟨rfl, rfl⟩
 · rw [if_neg h1]
   by_cases h2 : y < x
   · rw [if_pos h2]
     go_enter Try.func116, Try.ntmps116
     go_wp2
     go_ret
     exact ⟨rfl, rfl⟩
   · rw [if_neg h2]
     go_enter Try.func116, Try.ntmps116
     go_wp2
     go_ret
     exact ⟨rfl, rfl⟩
end Go.Proofs.Ytphmlndkjgldkaa
