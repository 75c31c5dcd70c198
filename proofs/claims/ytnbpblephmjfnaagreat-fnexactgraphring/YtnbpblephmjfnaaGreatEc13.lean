/- The contracts of the laws' toItemS, szItemS, eqItemS, toSpanS, szSpanS, eqSpanS. Conditions: items of at most 2^21 bytes together. -/
import Derived.Test.YtnbpblephmjfnaaGreatEb13
import Derived.Test.YtnbpblephmjfnaaGreatNm9
namespace Go.Proofs.YtnbpblephmjfnaaGreat
open Go.RowKit
set_option maxRecDepth 100000
theorem made4n (a b c d : Value) : ∀ n : Nat, (madeCells #[a, b, c, d] (n * 4)).toList = (List.replicate n [a, b, c, d]).flatten := by
 intro n
 have h : ∀ n : Nat, (madeCells #[a, b, c, d] (n * 4)).toList = (List.range (n * 4)).map (fun i => #[a, b, c, d][i % 4]!) := by
  intro n
  simp [madeCells]
 rw [h]
 induction n with
 | zero => rfl
 | succ n ih =>
  rw [show (n + 1) * 4 = n * 4 + 4 by omega, List.range_add, List.map_append, ih, List.replicate_succ', List.flatten_append]
  congr 1
  simp [List.range_succ]
theorem made8n (a b c d : Value) : ∀ n : Nat, (madeCells #[a, b, c, d, a, b, c, d] (n * 8)).toList = (List.replicate (n * 2) [a, b, c, d]).flatten := by
 intro n
 have h : ∀ n : Nat, (madeCells #[a, b, c, d, a, b, c, d] (n * 8)).toList = (List.range (n * 8)).map (fun i => #[a, b, c, d, a, b, c, d][i % 8]!) := by
  intro n
  simp [madeCells]
 rw [h]
 induction n with
 | zero => rfl
 | succ n ih =>
  rw [show (n + 1) * 8 = n * 8 + 8 by omega, List.range_add, List.map_append, ih, show (n + 1) * 2 = n * 2 + 1 + 1 by omega, List.replicate_succ', List.flatten_append, List.replicate_succ', List.flatten_append, List.append_assoc]
  congr 1
  simp [List.range_succ]
theorem zeroIm (n : Nat) : cellsI (List.replicate n im0) (List.replicate n nilS) = (List.replicate n [Value.int .i64 0, .int .i64 0, .float .f64 0, nilS]).flatten := by
 induction n with
 | zero => rfl
 | succ n ih => rw [List.replicate_succ, List.replicate_succ, cellsI, ih, List.replicate_succ]; rfl
theorem cellsI_set4 : ∀ (es : List Im) (xs : List Value) (k : Nat) (e : Im) (x : Value), xs.length = es.length → k < es.length → ((((cellsI es xs).set (k * 4) (.int .i64 e.K)).set (k * 4 + 1) (.int .i64 e.N)).set (k * 4 + 2) (.float .f64 e.F)).set (k * 4 + 3) x = cellsI (es.set k e) (xs.set k x)
 | q :: es, y :: xs, 0, e, x, _, _ => by simp [cellsI, cellsI1]
 | q :: es, y :: xs, k + 1, e, x, h, hk => by
  have ih := cellsI_set4 es xs k e x (by simpa using h) (by simpa using hk)
  rw [show (k + 1) * 4 = k * 4 + 4 by omega]
  simp only [cellsI, cellsI1, List.cons_append, List.nil_append, List.set_cons_succ, ← ih]
theorem cellsI_set8 (es : List Im) (xs : List Value) (k : Nat) (e f : Im) (x y : Value) (h : xs.length = es.length) (hk : k * 2 + 1 < es.length) : ((((((((cellsI es xs).set (k * 8) (.int .i64 e.K)).set (k * 8 + 1) (.int .i64 e.N)).set (k * 8 + 2) (.float .f64 e.F)).set (k * 8 + 3) x).set (k * 8 + 4) (.int .i64 f.K)).set (k * 8 + 5) (.int .i64 f.N)).set (k * 8 + 6) (.float .f64 f.F)).set (k * 8 + 7) y = cellsI ((es.set (k * 2) e).set (k * 2 + 1) f) ((xs.set (k * 2) x).set (k * 2 + 1) y) := by
 have h1 := cellsI_set4 es xs (k * 2) e x h (by omega)
 have h2 := cellsI_set4 (es.set (k * 2) e) (xs.set (k * 2) x) (k * 2 + 1) f y (by simpa using h) (by simpa using hk)
 rw [show k * 2 * 4 = k * 8 by omega] at h1
 rw [show (k * 2 + 1) * 4 = k * 8 + 4 by omega, ← h1] at h2
 exact h2
def sumI : List Im → Nat
 | [] => 0
 | e :: es => e.Z.length + sumI es
theorem sumI_app : ∀ a b : List Im, sumI (a ++ b) = sumI a + sumI b
 | [], b => by simp [sumI]
 | e :: a, b => by simp [sumI, sumI_app a b]; omega
theorem take_snocI (es : List Im) (k : Nat) (h : k < es.length) : es.take (k + 1) = es.take k ++ [es.getD k im0] := by
 rw [List.take_add_one, List.getElem?_eq_getElem h, Option.toList_some]
 simp [List.getD, h]
theorem take_snocI2 (es : List Im) (k : Nat) (h : k * 2 + 1 < es.length) : es.take ((k + 1) * 2) = es.take (k * 2) ++ [es.getD (k * 2) im0, es.getD (k * 2 + 1) im0] := by
 rw [show (k + 1) * 2 = k * 2 + 1 + 1 by omega, take_snocI es _ h, take_snocI es _ (by omega), List.append_assoc]
 rfl
theorem sumI_step (es : List Im) (k : Nat) (h : k < es.length) : sumI (es.take (k + 1)) = sumI (es.take k) + (es.getD k im0).Z.length := by
 rw [take_snocI es k h, sumI_app]; simp [sumI]
theorem sumI_step2 (es : List Im) (k : Nat) (h : k * 2 + 1 < es.length) : sumI (es.take ((k + 1) * 2)) = sumI (es.take (k * 2)) + ((es.getD (k * 2) im0).Z.length + (es.getD (k * 2 + 1) im0).Z.length) := by
 rw [take_snocI2 es k h, sumI_app]; simp [sumI]
theorem sumI_take (es : List Im) (k : Nat) : sumI (es.take k) ≤ sumI es := by
 have : sumI es = sumI (es.take k ++ es.drop k) := by rw [List.take_append_drop]
 rw [this, sumI_app]; omega
theorem sumI_at (es : List Im) (k : Nat) (h : k < es.length) : (es.getD k im0).Z.length ≤ sumI es := by
 have h1 := sumI_step es k h
 have h2 := sumI_take es (k + 1)
 omega
theorem set_rep13 {α : Type} (l : List α) (k n : Nat) (z x y : α) (hl : l.length = k * 2) (hk : k < n) : ((l ++ List.replicate ((n - k) * 2) z).set (k * 2) x).set (k * 2 + 1) y = (l ++ [x, y]) ++ List.replicate ((n - (k + 1)) * 2) z := by
 rw [show (n - k) * 2 = (n - (k + 1)) * 2 + 1 + 1 by omega, List.replicate_succ, List.replicate_succ, List.set_append_right _ _ (by omega), hl, Nat.sub_self, List.set_cons_zero, List.set_append_right _ _ (by omega), hl, show k * 2 + 1 - k * 2 = 1 by omega]
 simp
set_option maxHeartbeats 6400000 in
theorem toItemS {ad : Option Addr} {n : Nat} (cap : Nat) {es : List Im} {w : World} (h : ReadsM w ad es) (hl : es.length = n) (hn : n ≤ 2097152) (hs : sumI es ≤ 2097152) :
 Calls Tryz.prog 111 #[.slice ad n cap] w fun e w' => e = .returned (.slice (some ⟨w.heap.size, 0, none⟩) n n) ∧ OwnM 72 4 w' w.heap.size w'.heap.size (.slice (some ⟨w.heap.size, 0, none⟩) n n) n es ∧ Below w.heap.size w w' := by
 obtain ⟨i0, hi, hz0, hz1, hz2⟩ := info_parts Tryz.infoIm
 have HFL := hid (fun i => h.fl i)
 go_enter Tryz.func111, Tryz.ntmps111
 go_wp2_with (at_make; refine wpList_make_full _ rfl _ _ 66 rfl w.heap.size 72 i0 (.agg #[.int .i64 0, .int .i64 0, .float .f64 0, .slice none 0 0]) 4 Tryz.underlying66 hi hz0 hz1 _ _ _ _ n rfl rfl (by omega) (by omega) ?b2 ?b3 (Nat.le_refl _) ?_)
 case b2 => rw [hz2]; omega
 case b3 => unfold maxLen; omega
 intro sn0' hown0 hgrow0
 go_wp2
 go_loopw [4] (fun i wr => ∃ (k : Nat) (xs : List Value), k ≤ n ∧ i = .int .i64 k ∧ xs.length = k ∧ Hid (wr.ownsRow w.heap.size 72 4 (.slice (some ⟨w.heap.size, 0, none⟩) n n) n (cellsI (es.take k ++ List.replicate (n - k) im0) (xs ++ List.replicate (n - k) nilS))) ∧ Hid (Bands wr w.heap.size wr.heap.size xs (textsI (es.take k))) ∧ Hid (Below w.heap.size w wr))
  (fun i _ => n - (intOf i).toNat)
 case atStart =>
  refine ⟨0, [], Nat.zero_le _, rfl, rfl, hid ?_, hid (by simpa [textsI] using Bands.nil _ _ _), hid ((Below.refl _ _).grown hgrow0 (Nat.le_refl _) (fun k h => by cases h))⟩
  rw [made4n, ← nilS, ← zeroIm] at hown0
  simpa using hown0
 case round =>
  obtain ⟨k, xs, hk, rfl, hx, hown, hB, hnx⟩ := hrel
  by_cases hlt : k < n
  · have hlt' : (k : Int) < (n : Int) := by omega
    obtain ⟨b, off, a, c, rfl, bx0, r0, _, _, _⟩ := h.at (k := k) (by omega)
    have bx := bx0.below hnx.out (Nat.le_refl _)
    have hr := hid (r0.below hnx.out (Nat.le_refl _))
    have hlen := sumI_at es k (by omega)
    have HT := hid (take_snocI es k (by omega))
    have HBD := hid r0.bd
    generalize es.getD k im0 = e at *
    obtain ⟨K, N, F, Z⟩ := e
    obtain ⟨m, hm⟩ : ∃ m, Z.length = m := ⟨_, rfl⟩
    simp only at bx hlen hr HBD
    rw [hm] at bx hlen hr
    have hmm : m ≤ 2097152 := by omega
    have HM := hid hm
    have hst := fun w a m => run_store Tryz.prog w a (.float .f64 F) m rfl
    obtain ⟨c0, c1, c2, c3⟩ := bx
    clear bx0 r0 hm hown0 hgrow0 hlen
    go_wp2_with fail
    clear c0 c1 c2 c3
    refine (toItem K N F c hr.out (by omega)).mono ?_
    rintro e w1 ⟨g, rfl, o1, b1⟩
    have hown1 := owns_below b1 (by have := hnx.out.size; omega) hown.out
    have hxl : (xs ++ List.replicate (n - k) nilS).length = (es.take k ++ List.replicate (n - k) im0).length := by simp; omega
    have hel : (es.take k ++ List.replicate (n - k) im0).length = n := by simp; omega
    have hzl : (cellsI (es.take k ++ List.replicate (n - k) im0) (xs ++ List.replicate (n - k) nilS)).length = n * 4 := by
     rw [cellsI_len _ _ hxl, hel]
    have hcc : ∀ q, q < 4 → ∃ v, w1.cell? ⟨w.heap.size, k * 4 + q, none⟩ = some v := fun q hq => by
     rw [hown1.cellAt (k * 4 + q) (by omega)]
     exact ⟨_, List.getElem?_eq_getElem (by omega)⟩
    obtain ⟨v0, d0⟩ := hcc 0 (by omega)
    obtain ⟨v1, d1⟩ := hcc 1 (by omega)
    obtain ⟨v2, d2⟩ := hcc 2 (by omega)
    obtain ⟨v3, d3⟩ := hcc 3 (by omega)
    simp only [Nat.add_zero] at d0
    have fz : ∀ q, w1.frozen? ⟨w.heap.size, q, none⟩ = false := fun q => hown1.frozenAt q
    have f0 := fz (k * 4)
    have f1 := fz (k * 4 + 1)
    have f2 := fz (k * 4 + 2)
    have f3 := fz (k * 4 + 3)
    have S0 := hown1.stored (k * 4) (.int .i64 K)
    have S1 := S0.1.stored (k * 4 + 1) (.int .i64 N)
    have S2 := S1.1.stored (k * 4 + 2) (.float .f64 F)
    have S3 := S2.1.stored (k * 4 + 3) (.slice (some ⟨g, 0, none⟩) m m)
    have hB1 : Bands w1 w.heap.size w1.heap.size (xs ++ [.slice (some ⟨g, 0, none⟩) m m]) (textsI (es.take k) ++ [Z]) := (hB.out.agree (Agree.below b1 (Nat.le_refl _))).snoc (by have := hnx.out.size; omega) b1.size (by rw [HM.out]; exact o1) HBD.out (Nat.le_refl _)
    have B1 := hB1.beside S0.2 (fun i => owns_ne (hB1.own i) hown1 (by decide))
    have B2 := B1.beside S1.2 (fun i => owns_ne (B1.own i) S0.1 (by decide))
    have B3 := B2.beside S2.2 (fun i => owns_ne (B2.own i) S1.1 (by decide))
    have B4 := B3.beside S3.2 (fun i => owns_ne (B3.own i) S2.1 (by decide))
    have V9 := (((((hnx.out.trans (b1.mono hnx.out.size)).setCell (p := ⟨w.heap.size, k * 4, none⟩) (Nat.le_refl _) (.int .i64 K)).setCell (p := ⟨w.heap.size, k * 4 + 1, none⟩) (Nat.le_refl _) (.int .i64 N)).setCell (p := ⟨w.heap.size, k * 4 + 2, none⟩) (Nat.le_refl _) (.float .f64 F)).setCell (p := ⟨w.heap.size, k * 4 + 3, none⟩) (Nat.le_refl _) (.slice (some ⟨g, 0, none⟩) m m))
    have O9 := S3.1
    rw [cellsI_set4 _ _ k ⟨K, N, F, Z⟩ _ hxl (by rw [hel]; omega), set_rep9 _ k n im0 _ (by simp; omega) hlt, set_rep9 xs k n nilS _ hx hlt, ← HT.out] at O9
    have HO := hid O9
    have HBB := hid B4
    have HV := hid V9
    clear S0 S1 S2 S3 hB1 B1 B2 B3 B4 V9 O9 hown1 o1 b1 hzl hcc fz hxl hel
    go_wp2_with fail
    go_roundw
    case rel => exact ⟨k + 1, xs ++ [.slice (some ⟨g, 0, none⟩) m m], by omega, by go_num, by simp [hx], HO, hid (by rw [HT.out, textsI_app]; simpa [textsI] using HBB.out), HV⟩
    case measure => simp [intOf]; omega
  · go_wp2
    go_ret
    have hkn : k = n := by omega
    subst hkn
    refine ⟨rfl, ⟨⟨xs, ?_, ?_⟩, (fun g hg => (hown.out.lt g hg).2), HFL.out, by omega⟩, hnx.out⟩
    · have := hown.out
      rw [List.take_of_length_le (by omega)] at this
      simpa using this
    · have := hB.out
      rw [List.take_of_length_le (by omega)] at this
      exact this
set_option maxHeartbeats 1600000 in
theorem szItemS {ad : Option Addr} {n : Nat} (cap : Nat) {es : List Im} {w : World} (h : ReadsM w ad es) (hl : es.length = n) (hn : n ≤ 9223372036854775807) (left : Int) (h0 : 0 ≤ left) (h1 : left ≤ 1048576) :
 Calls Tryz.prog 109 #[.slice ad n cap, .int .i64 left] w fun e w' => e = .returned (.int .i64 (lft13 left (n + sumI es))) ∧ Below w.heap.size w w' := by
 have a1 : (0 : Int) ≤ (n : Int) := by omega
 have a2 : (n : Int) ≤ 9223372036854775807 := by omega
 by_cases hbig : left < n
 · have q : left - (n : Int) < 0 := by omega
   have HE := hid (show lft13 left (n + sumI es) = -1 by unfold lft13; rw [if_pos (by omega)])
   go_enter Tryz.func109, Tryz.ntmps109
   go_wp2
   go_ret
   exact ⟨by rw [HE.out]; rfl, Below.refl _ _⟩
 have q : ¬ left - (n : Int) < 0 := by omega
 have hn2 : n ≤ 1048576 := by omega
 obtain ⟨L, hL⟩ : ∃ L : Int, left - n = L := ⟨_, rfl⟩
 have hL0 : 0 ≤ L := by omega
 have hL1 : L ≤ 1048576 := by omega
 have HG := hid (show ∀ t : Nat, lft13 left (n + t) = lft13 L t by intro t; unfold lft13; by_cases hh : L < t; rw [if_pos (by omega), if_pos hh]; rw [if_neg (by omega), if_neg hh]; omega)
 have HL := hid hL
 go_enter Tryz.func109, Tryz.ntmps109
 go_wp2
 clear hL q
 go_loopw [1, 5] (fun l i wr => ∃ (k : Nat) (x : Int), k ≤ n ∧ i = .int .i64 k ∧ l = .int .i64 x ∧ 0 ≤ x ∧ x ≤ 1048576 ∧ Hid (x = L - sumI (es.take k)) ∧ Hid (Below w.heap.size w wr)) (fun _ i _ => n - (intOf i).toNat)
 case atStart => exact ⟨0, L, Nat.zero_le _, rfl, rfl, hL0, hL1, hid (by simp [sumI]), hid (Below.refl _ _)⟩
 case round =>
  obtain ⟨k, x, hk, rfl, rfl, hx0, hx1, HX, hB⟩ := hrel
  by_cases hlt : k < n
  · have hlt' : (k : Int) < (n : Int) := by omega
    have hk0 : (0 : Int) ≤ (k : Int) := by omega
    obtain ⟨b, off, a, c, rfl, bx0, r0, _, hmx, _⟩ := h.at (k := k) (by omega)
    unfold maxLen at hmx
    have bx := bx0.below hB.out (Nat.le_refl _)
    have HT := hid (sumI_step es k (by omega))
    have HU := hid (sumI_take es (k + 1))
    generalize es.getD k im0 = e at *
    obtain ⟨K, N, F, Z⟩ := e
    simp only at bx hmx HT
    obtain ⟨m, hm⟩ : ∃ m, Z.length = m := ⟨_, rfl⟩
    rw [hm] at bx hmx HT
    have hst := fun w a m => run_store Tryz.prog w a (.float .f64 F) m rfl
    obtain ⟨c0, c1, c2, c3⟩ := bx
    clear r0 hm bx0
    obtain ⟨M, hM⟩ : ∃ M : Nat, m = M := ⟨_, rfl⟩
    obtain ⟨y, hy⟩ : ∃ y : Int, (if x < (m : Int) then (-1 : Int) else x - m) = y := ⟨_, rfl⟩
    have HY := hid hy
    have HM := hid hM
    have hy2 : (x < (M : Nat) ∧ y = -1) ∨ (0 ≤ y ∧ y ≤ 1048576 ∧ y = x - (M : Nat)) := by
     skip
     by_cases hh : x < (m : Int)
     · rw [if_pos hh] at hy; exact .inl ⟨by omega, hy.symm⟩
     · rw [if_neg hh] at hy; exact .inr ⟨by omega, by omega, by omega⟩
    have HY2 := hid hy2
    clear hy hy2 hM
    go_wp2_with fail
    clear c0 c1 c2 c3
    refine (szItem K N F a m c x (by omega) hx0 hx1 wr).mono ?_
    rintro e w1 ⟨rfl, b1⟩
    rw [HY.out]
    have HB := hid (hB.out.trans (b1.mono hB.out.size))
    clear b1
    rcases HY2.out with ⟨hbm, rfl⟩ | ⟨hy0, hy1, hye⟩
    · go_wp2_with fail
      go_ret
      refine ⟨?_, HB.out⟩
      rw [HG.out]
      unfold lft13
      rw [if_pos (by have := HT.out; have := HU.out; have := HX.out; have := HM.out; omega)]
      rfl
    · have hy2 : ¬ y < 0 := by omega
      have HYE := hid hye
      clear hye HY2
      go_wp2_with fail
      go_roundw
      case rel => exact ⟨k + 1, y, by omega, by go_num, rfl, hy0, hy1, hid (by have := HT.out; have := HX.out; have := HYE.out; have := HM.out; omega), HB⟩
      case measure => simp [intOf]; omega
  · have hlt' : ¬ (k : Int) < (n : Int) := by omega
    go_wp2
    go_ret
    refine ⟨?_, hB.out⟩
    rw [HG.out]
    have := HX.out
    rw [List.take_of_length_le (by omega)] at this
    unfold lft13
    rw [if_neg (by omega), this]
    rfl
def Im.same (e f : Im) : Prop := e.K = f.K ∧ e.N = f.N ∧ Same e.F f.F ∧ e.Z = f.Z
def SameM (es fs : List Im) : Prop := es.length = fs.length ∧ ∀ i, (es.getD i im0).same (fs.getD i im0)
theorem SameM.refl (es : List Im) : SameM es es := ⟨rfl, fun _ => ⟨rfl, rfl, Same.refl _, rfl⟩⟩
set_option maxHeartbeats 6400000 in
theorem eqItemS {ad ad' : Option Addr} {n : Nat} (cap cap' : Nat) {es fs : List Im} {w : World} (h : ReadsM w ad es) (h' : ReadsM w ad' fs) (hSm : SameM es fs) (hl : es.length = n) (hn : n ≤ 2097152) (hs : sumI es ≤ 2097152) :
 Calls Tryz.prog 113 #[.slice ad n cap, .slice ad' n cap'] w fun e w' => e = .returned (.bool true) ∧ Below w.heap.size w w' := by
 have hlf := hSm.1
 go_enter Tryz.func113, Tryz.ntmps113
 go_wp2
 go_loopw [5] (fun i wr => ∃ k : Nat, k ≤ n ∧ i = .int .i64 k ∧ Hid (Below w.heap.size w wr)) (fun i _ => n - (intOf i).toNat)
 case atStart => exact ⟨0, Nat.zero_le _, rfl, hid (Below.refl _ _)⟩
 case round =>
  obtain ⟨k, hk, rfl, hS⟩ := hrel
  by_cases hlt : k < n
  · have hlt' : (k : Int) < (n : Int) := by omega
    have hk0 : (0 : Int) ≤ (k : Int) := by omega
    obtain ⟨b, off, a1, c1, rfl, bx, r1, _, _, hf⟩ := h.at (k := k) (by omega)
    obtain ⟨b', off', a1', c1', rfl, bx', r1', _, _, hf'⟩ := h'.at (k := k) (by omega)
    have hlen := sumI_at es (k) (by omega)
    have hsm := hSm.2 (k)
    generalize es.getD (k) im0 = e at *
    generalize fs.getD (k) im0 = e1 at *
    obtain ⟨K, N, F, Z⟩ := e
    obtain ⟨K1, N1, F', Z1⟩ := e1
    obtain ⟨e11, e12, hsf, e14⟩ := hsm
    simp only at e11 e12 hsf e14
    subst e11 e12 e14
    simp only at bx bx' r1 r1' hlen hf hf'
    obtain ⟨zl, hzl⟩ : ∃ zl, Z.length = zl := ⟨_, rfl⟩
    rw [hzl] at bx bx' r1 r1' hlen
    have bD := (Still.drew wr).below wr.heap.size
    have hz2 : zl ≤ 2097152 := by omega
    have BX := hid ((bx.below hS.out (Nat.le_refl _)).below bD (Nat.le_refl _))
    have BY := hid ((bx'.below hS.out (Nat.le_refl _)).below bD (Nat.le_refl _))
    have R1 := hid ((r1.below hS.out (Nat.le_refl _)).below bD (Nat.le_refl _))
    have R3 := hid ((r1'.below hS.out (Nat.le_refl _)).below bD (Nat.le_refl _))
    have HF := hid hf
    have HF' := hid hf'
    have HSm := hid hsf
    clear bx bx' r1 r1' hlen hzl hf hf' hsf
    go_wp2
    replace hS := hid (hS.out.trans (bD.mono hS.out.size))
    clear bD
    refine region_K 99 (fun W => Box4 W b (off + k * 4) K N F (.slice a1 zl c1) ∧ Box4 W b' (off' + k * 4) K N F' (.slice a1' zl c1')) (by kernel_rfl) ?_ (fun hHeld => ?_)
    · exact ⟨BX.out, BY.out⟩
    generalize wr.drew = v0 at *
    refine anyK_take2 (i := 0) (v := ?v0) rfl (by kernel_rfl) (by kernel_rfl) (by kernel_rfl) (by rfl) (fun _ _ _ h => h) (by rfl) hHeld ?hy0 (some 17) (by rfl) ?rest0
    case hy0 => (intro W hSw; obtain ⟨⟨x0, x1, x2, x3⟩, ⟨y0, y1, y2, y3⟩⟩ := hSw; go_simp; (try with_reducible rfl))
    try simp only [Act.put, List.setIfInBounds_toArray, List.set_cons_succ, List.set_cons_zero]
    refine anyK_take2 (i := 1) (v := ?v1) rfl (by kernel_rfl) (by kernel_rfl) (by kernel_rfl) (by rfl) (fun _ _ _ h => h) (by rfl) hHeld ?hy1 (some 18) (by rfl) ?rest1
    case hy1 => (intro W hSw; obtain ⟨⟨x0, x1, x2, x3⟩, ⟨y0, y1, y2, y3⟩⟩ := hSw; go_simp; (try with_reducible rfl))
    try simp only [Act.put, List.setIfInBounds_toArray, List.set_cons_succ, List.set_cons_zero]
    refine anyK_take2 (i := 2) (v := ?v2) rfl (by kernel_rfl) (by kernel_rfl) (by kernel_rfl) (by rfl) (fun _ _ _ h => h) (by rfl) hHeld ?hy2 (some 19) (by rfl) ?rest2
    case hy2 => (intro W hSw; obtain ⟨⟨x0, x1, x2, x3⟩, ⟨y0, y1, y2, y3⟩⟩ := hSw; go_simp; (try with_reducible rfl))
    try simp only [Act.put, List.setIfInBounds_toArray, List.set_cons_succ, List.set_cons_zero]
    refine anyK_take2 (i := 3) (v := ?v3) rfl (by kernel_rfl) (by kernel_rfl) (by kernel_rfl) (by rfl) (fun _ _ _ h => h) (by rfl) hHeld ?hy3 (some 20) (by rfl) ?rest3
    case hy3 => (intro W hSw; obtain ⟨⟨x0, x1, x2, x3⟩, ⟨y0, y1, y2, y3⟩⟩ := hSw; go_simp; (try with_reducible rfl))
    try simp only [Act.put, List.setIfInBounds_toArray, List.set_cons_succ, List.set_cons_zero]
    refine anyK_take2 (i := 4) (v := ?v4) rfl (by kernel_rfl) (by kernel_rfl) (by kernel_rfl) (by rfl) (fun _ _ _ h => h) (by rfl) hHeld ?hy4 (some 21) (by rfl) ?rest4
    case hy4 => (intro W hSw; obtain ⟨⟨x0, x1, x2, x3⟩, ⟨y0, y1, y2, y3⟩⟩ := hSw; go_simp; (try with_reducible rfl))
    try simp only [Act.put, List.setIfInBounds_toArray, List.set_cons_succ, List.set_cons_zero]
    refine anyK_take2 (i := 5) (v := ?v5) rfl (by kernel_rfl) (by kernel_rfl) (by kernel_rfl) (by rfl) (fun _ _ _ h => h) (by rfl) hHeld ?hy5 (some 22) (by rfl) ?rest5
    case hy5 => (intro W hSw; obtain ⟨⟨x0, x1, x2, x3⟩, ⟨y0, y1, y2, y3⟩⟩ := hSw; go_simp; (try with_reducible rfl))
    try simp only [Act.put, List.setIfInBounds_toArray, List.set_cons_succ, List.set_cons_zero]
    refine anyK_take2 (i := 6) (v := ?v6) rfl (by kernel_rfl) (by kernel_rfl) (by kernel_rfl) (by rfl) (fun _ _ _ h => h) (by rfl) hHeld ?hy6 (some 23) (by rfl) ?rest6
    case hy6 => (intro W hSw; obtain ⟨⟨x0, x1, x2, x3⟩, ⟨y0, y1, y2, y3⟩⟩ := hSw; go_simp; (try with_reducible rfl))
    try simp only [Act.put, List.setIfInBounds_toArray, List.set_cons_succ, List.set_cons_zero]
    refine anyK_take2 (i := 7) (v := ?v7) rfl (by kernel_rfl) (by kernel_rfl) (by kernel_rfl) (by rfl) (fun _ _ _ h => h) (by rfl) hHeld ?hy7 (some 24) (by rfl) ?rest7
    case hy7 => (intro W hSw; obtain ⟨⟨x0, x1, x2, x3⟩, ⟨y0, y1, y2, y3⟩⟩ := hSw; go_simp; (try with_reducible rfl))
    try simp only [Act.put, List.setIfInBounds_toArray, List.set_cons_succ, List.set_cons_zero]
    refine anyK_step (i := 8) (by kernel_rfl) rfl (fun KP hK => ?_)
    go_simp
    refine (eqItem K N F F' c1 c1' HF.out HF'.out HSm.out R1.out R3.out hz2).mono ?_
    rintro e u ⟨rfl, b1⟩
    have HS2 := hid (hS.out.trans (b1.mono hS.out.size))
    replace BX := hid (BX.out.below b1 (Nat.le_refl _))
    replace BY := hid (BY.out.below b1 (Nat.le_refl _))
    clear b1
    go_wp2_with fail
    clear hHeld
    refine hK.out _ _ ⟨BX.out, BY.out⟩ (fun hHeld => ?_)
    clear hK KP
    try simp only [Act.put, List.setIfInBounds_toArray, List.set_cons_succ, List.set_cons_zero]
    refine anyK_step (i := 9) (by kernel_rfl) rfl (fun KP hK => ?_)
    go_simp
    clear hHeld
    refine hK.out _ _ ⟨BX.out, BY.out⟩ (fun hHeld => ?_)
    clear hK KP
    try simp only [Act.put, List.setIfInBounds_toArray, List.set_cons_succ, List.set_cons_zero]
    refine anyK_done (by kernel_rfl) ?_ _
    clear hHeld
    go_wp2_with fail
    go_roundw
    case rel => exact ⟨k + 1, by omega, by go_num, HS2⟩
    case measure => simp [intOf]; omega
  · have hlt' : ¬ (k : Int) < (n : Int) := by omega
    go_wp2
    go_ret
    exact ⟨rfl, hS.out⟩
set_option maxHeartbeats 6400000 in
theorem toSpanS {ad : Option Addr} {n : Nat} (cap : Nat) {es : List Im} {w : World} (h : ReadsM w ad es) (hl : es.length = n * 2) (hn : n ≤ 2097152) (hs : sumI es ≤ 2097152) :
 Calls Tryz.prog 110 #[.slice ad n cap] w fun e w' => e = .returned (.slice (some ⟨w.heap.size, 0, none⟩) n n) ∧ OwnM 74 8 w' w.heap.size w'.heap.size (.slice (some ⟨w.heap.size, 0, none⟩) n n) n es ∧ Below w.heap.size w w' := by
 obtain ⟨i0, hi, hz0, hz1, hz2⟩ := info_parts Tryz.infoSp
 have HFL := hid (fun i => h.fl i)
 go_enter Tryz.func110, Tryz.ntmps110
 go_wp2_with (at_make; refine wpList_make_full _ rfl _ _ 65 rfl w.heap.size 74 i0 (.agg #[.int .i64 0, .int .i64 0, .float .f64 0, .slice none 0 0, .int .i64 0, .int .i64 0, .float .f64 0, .slice none 0 0]) 8 Tryz.underlying65 hi hz0 hz1 _ _ _ _ n rfl rfl (by omega) (by omega) ?b2 ?b3 (Nat.le_refl _) ?_)
 case b2 => rw [hz2]; omega
 case b3 => unfold maxLen; omega
 intro sn0' hown0 hgrow0
 go_wp2
 go_loopw [4] (fun i wr => ∃ (k : Nat) (xs : List Value), k ≤ n ∧ i = .int .i64 k ∧ xs.length = (k * 2) ∧ Hid (wr.ownsRow w.heap.size 74 8 (.slice (some ⟨w.heap.size, 0, none⟩) n n) n (cellsI (es.take (k * 2) ++ List.replicate ((n - k) * 2) im0) (xs ++ List.replicate ((n - k) * 2) nilS))) ∧ Hid (Bands wr w.heap.size wr.heap.size xs (textsI (es.take (k * 2)))) ∧ Hid (Below w.heap.size w wr))
  (fun i _ => n - (intOf i).toNat)
 case atStart =>
  refine ⟨0, [], Nat.zero_le _, rfl, rfl, hid ?_, hid (by simpa [textsI] using Bands.nil _ _ _), hid ((Below.refl _ _).grown hgrow0 (Nat.le_refl _) (fun k h => by cases h))⟩
  rw [made8n, ← nilS, ← zeroIm] at hown0
  simpa using hown0
 case round =>
  obtain ⟨k, xs, hk, rfl, hx, hown, hB, hnx⟩ := hrel
  by_cases hlt : k < n
  · have hlt' : (k : Int) < (n : Int) := by omega
    obtain ⟨b, off, a, c, rfl, bx0, r0, _, _, _⟩ := h.at (k := k * 2) (by omega)
    obtain ⟨b', off', a2, c2, e', bx1, r1, _, _, _⟩ := h.at (k := k * 2 + 1) (by omega)
    obtain ⟨rfl, rfl⟩ : b = b' ∧ off = off' := by simpa using e'
    have bx := bx0.below hnx.out (Nat.le_refl _)
    have by' := bx1.below hnx.out (Nat.le_refl _)
    have hr := hid (r0.below hnx.out (Nat.le_refl _))
    have hr2 := hid (r1.below hnx.out (Nat.le_refl _))
    have hlen := sumI_at es (k * 2) (by omega)
    have hlen2 := sumI_at es (k * 2 + 1) (by omega)
    have HT := hid (take_snocI2 es k (by omega))
    have HBD := hid r0.bd
    have HBD2 := hid r1.bd
    generalize es.getD (k * 2) im0 = e at *
    generalize es.getD (k * 2 + 1) im0 = e2 at *
    obtain ⟨K, N, F, Z⟩ := e
    obtain ⟨K2, N2, F2, Z2⟩ := e2
    obtain ⟨m, hm⟩ : ∃ m, Z.length = m := ⟨_, rfl⟩
    obtain ⟨m2, hm2⟩ : ∃ m2, Z2.length = m2 := ⟨_, rfl⟩
    simp only at bx by' hlen hlen2 hr hr2 HBD HBD2
    rw [hm] at bx hlen hr
    rw [hm2] at by' hlen2 hr2
    have hmm : m ≤ 2097152 := by omega
    have hmm2 : m2 ≤ 2097152 := by omega
    have HM := hid hm
    have HM2 := hid hm2
    have hst := fun w a m => run_store Tryz.prog w a (.float .f64 F) m rfl
    have hst2 := fun w a m => run_store Tryz.prog w a (.float .f64 F2) m rfl
    obtain ⟨c0, c1, c20, c3⟩ := bx
    obtain ⟨c4, c5, c6, c7⟩ := by'
    rw [show off + k * 2 * 4 = off + k * 8 by omega] at c0 c1 c20 c3
    rw [show off + (k * 2 + 1) * 4 = off + k * 8 + 4 by omega] at c4 c5 c6 c7
    clear bx0 r0 bx1 r1 hm hm2 hown0 hgrow0 hlen hlen2 e'
    go_wp2_with fail
    clear c0 c1 c20 c3 c4 c5 c6 c7
    refine (toSpan K N F c K2 N2 F2 c2 hr.out hr2.out (by omega) (by omega)).mono ?_
    rintro e w1 ⟨g, g2, mid, rfl, o1, o2, hgm, hm1, hm2, b1⟩
    have hown1 := owns_below b1 (by have := hnx.out.size; omega) hown.out
    have hxl : (xs ++ List.replicate ((n - k) * 2) nilS).length = (es.take (k * 2) ++ List.replicate ((n - k) * 2) im0).length := by simp; omega
    have hel : (es.take (k * 2) ++ List.replicate ((n - k) * 2) im0).length = (n * 2) := by simp; omega
    have hzl : (cellsI (es.take (k * 2) ++ List.replicate ((n - k) * 2) im0) (xs ++ List.replicate ((n - k) * 2) nilS)).length = n * 8 := by
     rw [cellsI_len _ _ hxl, hel]; omega
    have hcc : ∀ q, q < 8 → ∃ v, w1.cell? ⟨w.heap.size, k * 8 + q, none⟩ = some v := fun q hq => by
     rw [hown1.cellAt (k * 8 + q) (by omega)]
     exact ⟨_, List.getElem?_eq_getElem (by omega)⟩
    obtain ⟨v0, d0⟩ := hcc 0 (by omega)
    obtain ⟨v1, d1⟩ := hcc 1 (by omega)
    obtain ⟨v2, d2⟩ := hcc 2 (by omega)
    obtain ⟨v3, d3⟩ := hcc 3 (by omega)
    obtain ⟨v4, d4⟩ := hcc 4 (by omega)
    obtain ⟨v5, d5⟩ := hcc 5 (by omega)
    obtain ⟨v6, d6⟩ := hcc 6 (by omega)
    obtain ⟨v7, d7⟩ := hcc 7 (by omega)
    simp only [Nat.add_zero] at d0
    have fz : ∀ q, w1.frozen? ⟨w.heap.size, q, none⟩ = false := fun q => hown1.frozenAt q
    have f0 := fz (k * 8)
    have f1 := fz (k * 8 + 1)
    have f2 := fz (k * 8 + 2)
    have f3 := fz (k * 8 + 3)
    have f4 := fz (k * 8 + 4)
    have f5 := fz (k * 8 + 5)
    have f6 := fz (k * 8 + 6)
    have f7 := fz (k * 8 + 7)
    have S0 := hown1.stored (k * 8) (.int .i64 K)
    have S1 := S0.1.stored (k * 8 + 1) (.int .i64 N)
    have S2 := S1.1.stored (k * 8 + 2) (.float .f64 F)
    have S3 := S2.1.stored (k * 8 + 3) (.slice (some ⟨g, 0, none⟩) m m)
    have S4 := S3.1.stored (k * 8 + 4) (.int .i64 K2)
    have S5 := S4.1.stored (k * 8 + 5) (.int .i64 N2)
    have S6 := S5.1.stored (k * 8 + 6) (.float .f64 F2)
    have S7 := S6.1.stored (k * 8 + 7) (.slice (some ⟨g2, 0, none⟩) m2 m2)
    have og := o1.lt g rfl
    have hB0 : Bands w1 w.heap.size mid (xs ++ [.slice (some ⟨g, 0, none⟩) m m]) (textsI (es.take (k * 2)) ++ [Z]) := (hB.out.agree (Agree.below b1 (Nat.le_refl _))).append (Bands.one_top (by rw [HM.out]; exact o1) HBD.out (by intro q hq; simp [Value.ownBlock] at hq; omega)) (by have := hnx.out.size; omega) hm1
    have hB1 : Bands w1 w.heap.size w1.heap.size ((xs ++ [.slice (some ⟨g, 0, none⟩) m m]) ++ [.slice (some ⟨g2, 0, none⟩) m2 m2]) ((textsI (es.take (k * 2)) ++ [Z]) ++ [Z2]) := hB0.snoc (by have := hnx.out.size; omega) hm2 (by rw [HM2.out]; exact o2) HBD2.out (Nat.le_refl _)
    have B1 := hB1.beside S0.2 (fun i => owns_ne (hB1.own i) hown1 (by decide))
    have B2 := B1.beside S1.2 (fun i => owns_ne (B1.own i) S0.1 (by decide))
    have B3 := B2.beside S2.2 (fun i => owns_ne (B2.own i) S1.1 (by decide))
    have B4 := B3.beside S3.2 (fun i => owns_ne (B3.own i) S2.1 (by decide))
    have B5 := B4.beside S4.2 (fun i => owns_ne (B4.own i) S3.1 (by decide))
    have B6 := B5.beside S5.2 (fun i => owns_ne (B5.own i) S4.1 (by decide))
    have B7 := B6.beside S6.2 (fun i => owns_ne (B6.own i) S5.1 (by decide))
    have B8 := B7.beside S7.2 (fun i => owns_ne (B7.own i) S6.1 (by decide))
    have V9 := (((((((((hnx.out.trans (b1.mono hnx.out.size)).setCell (p := ⟨w.heap.size, k * 8, none⟩) (Nat.le_refl _) (.int .i64 K)).setCell (p := ⟨w.heap.size, k * 8 + 1, none⟩) (Nat.le_refl _) (.int .i64 N)).setCell (p := ⟨w.heap.size, k * 8 + 2, none⟩) (Nat.le_refl _) (.float .f64 F)).setCell (p := ⟨w.heap.size, k * 8 + 3, none⟩) (Nat.le_refl _) (.slice (some ⟨g, 0, none⟩) m m)).setCell (p := ⟨w.heap.size, k * 8 + 4, none⟩) (Nat.le_refl _) (.int .i64 K2)).setCell (p := ⟨w.heap.size, k * 8 + 5, none⟩) (Nat.le_refl _) (.int .i64 N2)).setCell (p := ⟨w.heap.size, k * 8 + 6, none⟩) (Nat.le_refl _) (.float .f64 F2)).setCell (p := ⟨w.heap.size, k * 8 + 7, none⟩) (Nat.le_refl _) (.slice (some ⟨g2, 0, none⟩) m2 m2))
    have O9 := S7.1
    rw [cellsI_set8 _ _ k ⟨K, N, F, Z⟩ ⟨K2, N2, F2, Z2⟩ _ _ hxl (by rw [hel]; omega), set_rep13 _ k n im0 _ _ (by simp; omega) hlt, set_rep13 xs k n nilS _ _ hx hlt, ← HT.out] at O9
    have HO := hid O9
    have HBB := hid B8
    have HV := hid V9
    clear S0 S1 S2 S3 S4 S5 S6 S7 og hB0 hB1 B1 B2 B3 B4 B5 B6 B7 B8 V9 O9 hown1 o1 o2 hgm hm1 hm2 b1 hzl hcc fz hxl hel
    go_wp2_with fail
    go_roundw
    case rel => exact ⟨k + 1, xs ++ [.slice (some ⟨g, 0, none⟩) m m, .slice (some ⟨g2, 0, none⟩) m2 m2], by omega, by go_num, by simp [hx]; omega, HO, hid (by rw [HT.out, textsI_app]; simpa [textsI] using HBB.out), HV⟩
    case measure => simp [intOf]; omega
  · go_wp2
    go_ret
    have hkn : k = n := by omega
    subst hkn
    refine ⟨rfl, ⟨⟨xs, ?_, ?_⟩, (fun g hg => (hown.out.lt g hg).2), HFL.out, by omega⟩, hnx.out⟩
    · have := hown.out
      rw [List.take_of_length_le (by omega)] at this
      simpa using this
    · have := hB.out
      rw [List.take_of_length_le (by omega)] at this
      exact this
set_option maxHeartbeats 1600000 in
theorem szSpanS {ad : Option Addr} {n : Nat} (cap : Nat) {es : List Im} {w : World} (h : ReadsM w ad es) (hl : es.length = n * 2) (hn : n ≤ 9223372036854775807) (left : Int) (h0 : 0 ≤ left) (h1 : left ≤ 1048576) :
 Calls Tryz.prog 108 #[.slice ad n cap, .int .i64 left] w fun e w' => e = .returned (.int .i64 (lft13 left (n + sumI es))) ∧ Below w.heap.size w w' := by
 have a1 : (0 : Int) ≤ (n : Int) := by omega
 have a2 : (n : Int) ≤ 9223372036854775807 := by omega
 by_cases hbig : left < n
 · have q : left - (n : Int) < 0 := by omega
   have HE := hid (show lft13 left (n + sumI es) = -1 by unfold lft13; rw [if_pos (by omega)])
   go_enter Tryz.func108, Tryz.ntmps108
   go_wp2
   go_ret
   exact ⟨by rw [HE.out]; rfl, Below.refl _ _⟩
 have q : ¬ left - (n : Int) < 0 := by omega
 have hn2 : n ≤ 1048576 := by omega
 obtain ⟨L, hL⟩ : ∃ L : Int, left - n = L := ⟨_, rfl⟩
 have hL0 : 0 ≤ L := by omega
 have hL1 : L ≤ 1048576 := by omega
 have HG := hid (show ∀ t : Nat, lft13 left (n + t) = lft13 L t by intro t; unfold lft13; by_cases hh : L < t; rw [if_pos (by omega), if_pos hh]; rw [if_neg (by omega), if_neg hh]; omega)
 have HL := hid hL
 go_enter Tryz.func108, Tryz.ntmps108
 go_wp2
 clear hL q
 go_loopw [1, 5] (fun l i wr => ∃ (k : Nat) (x : Int), k ≤ n ∧ i = .int .i64 k ∧ l = .int .i64 x ∧ 0 ≤ x ∧ x ≤ 1048576 ∧ Hid (x = L - sumI (es.take (k * 2))) ∧ Hid (Below w.heap.size w wr)) (fun _ i _ => n - (intOf i).toNat)
 case atStart => exact ⟨0, L, Nat.zero_le _, rfl, rfl, hL0, hL1, hid (by simp [sumI]), hid (Below.refl _ _)⟩
 case round =>
  obtain ⟨k, x, hk, rfl, rfl, hx0, hx1, HX, hB⟩ := hrel
  by_cases hlt : k < n
  · have hlt' : (k : Int) < (n : Int) := by omega
    have hk0 : (0 : Int) ≤ (k : Int) := by omega
    obtain ⟨b, off, a, c, rfl, bx0, r0, _, hmx, _⟩ := h.at (k := k * 2) (by omega)
    obtain ⟨b', off', a2, c2, e', bx1, r1, _, hmx2, _⟩ := h.at (k := k * 2 + 1) (by omega)
    obtain ⟨rfl, rfl⟩ : b = b' ∧ off = off' := by simpa using e'
    unfold maxLen at hmx hmx2
    have bx := bx0.below hB.out (Nat.le_refl _)
    have by' := bx1.below hB.out (Nat.le_refl _)
    have HT := hid (sumI_step2 es k (by omega))
    have HU := hid (sumI_take es ((k + 1) * 2))
    generalize es.getD (k * 2) im0 = e at *
    generalize es.getD (k * 2 + 1) im0 = e2 at *
    obtain ⟨K, N, F, Z⟩ := e
    obtain ⟨K2, N2, F2, Z2⟩ := e2
    simp only at bx by' hmx hmx2 HT
    obtain ⟨m, hm⟩ : ∃ m, Z.length = m := ⟨_, rfl⟩
    obtain ⟨m2, hm2⟩ : ∃ m2, Z2.length = m2 := ⟨_, rfl⟩
    rw [hm] at bx hmx HT
    rw [hm2] at by' hmx2 HT
    have hst := fun w a m => run_store Tryz.prog w a (.float .f64 F) m rfl
    have hst2 := fun w a m => run_store Tryz.prog w a (.float .f64 F2) m rfl
    obtain ⟨c0, c1, c20, c3⟩ := bx
    obtain ⟨c4, c5, c6, c7⟩ := by'
    rw [show off + k * 2 * 4 = off + k * 8 by omega] at c0 c1 c20 c3
    rw [show off + (k * 2 + 1) * 4 = off + k * 8 + 4 by omega] at c4 c5 c6 c7
    clear r0 r1 hm hm2 bx0 bx1 e'
    obtain ⟨M, hM⟩ : ∃ M : Nat, (m + m2) = M := ⟨_, rfl⟩
    obtain ⟨y, hy⟩ : ∃ y : Int, lft13 x (m + m2) = y := ⟨_, rfl⟩
    have HY := hid hy
    have HM := hid hM
    have hy2 : (x < (M : Nat) ∧ y = -1) ∨ (0 ≤ y ∧ y ≤ 1048576 ∧ y = x - (M : Nat)) := by
     unfold lft13 at hy
     by_cases hh : x < ((m + m2 : Nat) : Int)
     · rw [if_pos hh] at hy; exact .inl ⟨by omega, hy.symm⟩
     · rw [if_neg hh] at hy; exact .inr ⟨by omega, by omega, by omega⟩
    have HY2 := hid hy2
    clear hy hy2 hM
    go_wp2_with fail
    clear c0 c1 c20 c3 c4 c5 c6 c7
    refine (szSpan K N F a m c K2 N2 F2 a2 m2 c2 x (by omega) (by omega) hx0 hx1 wr).mono ?_
    rintro e w1 ⟨rfl, b1⟩
    rw [HY.out]
    have HB := hid (hB.out.trans (b1.mono hB.out.size))
    clear b1
    rcases HY2.out with ⟨hbm, rfl⟩ | ⟨hy0, hy1, hye⟩
    · go_wp2_with fail
      go_ret
      refine ⟨?_, HB.out⟩
      rw [HG.out]
      unfold lft13
      rw [if_pos (by have := HT.out; have := HU.out; have := HX.out; have := HM.out; omega)]
      rfl
    · have hy2 : ¬ y < 0 := by omega
      have HYE := hid hye
      clear hye HY2
      go_wp2_with fail
      go_roundw
      case rel => exact ⟨k + 1, y, by omega, by go_num, rfl, hy0, hy1, hid (by have := HT.out; have := HX.out; have := HYE.out; have := HM.out; omega), HB⟩
      case measure => simp [intOf]; omega
  · have hlt' : ¬ (k : Int) < (n : Int) := by omega
    go_wp2
    go_ret
    refine ⟨?_, hB.out⟩
    rw [HG.out]
    have := HX.out
    rw [List.take_of_length_le (by omega)] at this
    unfold lft13
    rw [if_neg (by omega), this]
    rfl
set_option maxHeartbeats 6400000 in
theorem eqSpanS {ad ad' : Option Addr} {n : Nat} (cap cap' : Nat) {es fs : List Im} {w : World} (h : ReadsM w ad es) (h' : ReadsM w ad' fs) (hSm : SameM es fs) (hl : es.length = n * 2) (hn : n ≤ 2097152) (hs : sumI es ≤ 2097152) :
 Calls Tryz.prog 112 #[.slice ad n cap, .slice ad' n cap'] w fun e w' => e = .returned (.bool true) ∧ Below w.heap.size w w' := by
 have hlf := hSm.1
 go_enter Tryz.func112, Tryz.ntmps112
 go_wp2
 go_loopw [5] (fun i wr => ∃ k : Nat, k ≤ n ∧ i = .int .i64 k ∧ Hid (Below w.heap.size w wr)) (fun i _ => n - (intOf i).toNat)
 case atStart => exact ⟨0, Nat.zero_le _, rfl, hid (Below.refl _ _)⟩
 case round =>
  obtain ⟨k, hk, rfl, hS⟩ := hrel
  by_cases hlt : k < n
  · have hlt' : (k : Int) < (n : Int) := by omega
    have hk0 : (0 : Int) ≤ (k : Int) := by omega
    obtain ⟨b, off, a1, c1, rfl, bx, r1, _, _, hf⟩ := h.at (k := k * 2) (by omega)
    obtain ⟨b', off', a1', c1', rfl, bx', r1', _, _, hf'⟩ := h'.at (k := k * 2) (by omega)
    have hlen := sumI_at es (k * 2) (by omega)
    have hsm := hSm.2 (k * 2)
    obtain ⟨bq, oq, a2, c2, eq1, bz, r2, _, _, hg⟩ := h.at (k := k * 2 + 1) (by omega)
    obtain ⟨bq', oq', a2', c2', eq2, bz', r2', _, _, hg'⟩ := h'.at (k := k * 2 + 1) (by omega)
    obtain ⟨rfl, rfl⟩ : b = bq ∧ off = oq := by simpa using eq1
    obtain ⟨rfl, rfl⟩ : b' = bq' ∧ off' = oq' := by simpa using eq2
    have hlen2 := sumI_at es (k * 2 + 1) (by omega)
    have hsm2 := hSm.2 (k * 2 + 1)
    generalize es.getD (k * 2 + 1) im0 = e2 at *
    generalize fs.getD (k * 2 + 1) im0 = e3 at *
    obtain ⟨K2, N2, F2, Z2⟩ := e2
    obtain ⟨K3, N3, F2', Z3⟩ := e3
    obtain ⟨e21, e22, hsf2, e24⟩ := hsm2
    simp only at e21 e22 hsf2 e24
    subst e21 e22 e24
    simp only at bz bz' r2 r2' hlen2 hg hg'
    obtain ⟨zl2, hzl2⟩ : ∃ zl, Z2.length = zl := ⟨_, rfl⟩
    rw [hzl2] at bz bz' r2 r2' hlen2
    generalize es.getD (k * 2) im0 = e at *
    generalize fs.getD (k * 2) im0 = e1 at *
    obtain ⟨K, N, F, Z⟩ := e
    obtain ⟨K1, N1, F', Z1⟩ := e1
    obtain ⟨e11, e12, hsf, e14⟩ := hsm
    simp only at e11 e12 hsf e14
    subst e11 e12 e14
    simp only at bx bx' r1 r1' hlen hf hf'
    obtain ⟨zl, hzl⟩ : ∃ zl, Z.length = zl := ⟨_, rfl⟩
    rw [hzl] at bx bx' r1 r1' hlen
    have bD := (Still.drew wr).below wr.heap.size
    have hz2 : zl ≤ 2097152 := by omega
    have hz3 : zl2 ≤ 2097152 := by omega
    rw [show off + k * 2 * 4 = off + k * 8 by omega] at bx
    rw [show off' + k * 2 * 4 = off' + k * 8 by omega] at bx'
    rw [show off + (k * 2 + 1) * 4 = off + k * 8 + 4 by omega] at bz
    rw [show off' + (k * 2 + 1) * 4 = off' + k * 8 + 4 by omega] at bz'
    have BX2 := hid ((bz.below hS.out (Nat.le_refl _)).below bD (Nat.le_refl _))
    have BY2 := hid ((bz'.below hS.out (Nat.le_refl _)).below bD (Nat.le_refl _))
    have R2 := hid ((r2.below hS.out (Nat.le_refl _)).below bD (Nat.le_refl _))
    have R4 := hid ((r2'.below hS.out (Nat.le_refl _)).below bD (Nat.le_refl _))
    have HG := hid hg
    have HG' := hid hg'
    have HSm2 := hid hsf2
    clear bz bz' r2 r2' hlen2 hzl2 hg hg' hsf2 eq1 eq2
    have BX := hid ((bx.below hS.out (Nat.le_refl _)).below bD (Nat.le_refl _))
    have BY := hid ((bx'.below hS.out (Nat.le_refl _)).below bD (Nat.le_refl _))
    have R1 := hid ((r1.below hS.out (Nat.le_refl _)).below bD (Nat.le_refl _))
    have R3 := hid ((r1'.below hS.out (Nat.le_refl _)).below bD (Nat.le_refl _))
    have HF := hid hf
    have HF' := hid hf'
    have HSm := hid hsf
    clear bx bx' r1 r1' hlen hzl hf hf' hsf
    go_wp2
    replace hS := hid (hS.out.trans (bD.mono hS.out.size))
    clear bD
    refine region_K 99 (fun W => (Box4 W b (off + k * 8) K N F (.slice a1 zl c1) ∧ Box4 W b (off + k * 8 + 4) K2 N2 F2 (.slice a2 zl2 c2)) ∧ (Box4 W b' (off' + k * 8) K N F' (.slice a1' zl c1') ∧ Box4 W b' (off' + k * 8 + 4) K2 N2 F2' (.slice a2' zl2 c2'))) (by kernel_rfl) ?_ (fun hHeld => ?_)
    · exact ⟨⟨BX.out, BX2.out⟩, ⟨BY.out, BY2.out⟩⟩
    generalize wr.drew = v0 at *
    refine anyK_take2 (i := 0) (v := ?v0) rfl (by kernel_rfl) (by kernel_rfl) (by kernel_rfl) (by rfl) (fun _ _ _ h => h) (by rfl) hHeld ?hy0 (some 17) (by rfl) ?rest0
    case hy0 => (intro W hSw; obtain ⟨⟨⟨x0, x1, x2, x3⟩, ⟨x4, x5, x6, x7⟩⟩, ⟨⟨y0, y1, y2, y3⟩, ⟨y4, y5, y6, y7⟩⟩⟩ := hSw; go_simp; (try with_reducible rfl))
    try simp only [Act.put, List.setIfInBounds_toArray, List.set_cons_succ, List.set_cons_zero]
    refine anyK_take2 (i := 1) (v := ?v1) rfl (by kernel_rfl) (by kernel_rfl) (by kernel_rfl) (by rfl) (fun _ _ _ h => h) (by rfl) hHeld ?hy1 (some 18) (by rfl) ?rest1
    case hy1 => (intro W hSw; obtain ⟨⟨⟨x0, x1, x2, x3⟩, ⟨x4, x5, x6, x7⟩⟩, ⟨⟨y0, y1, y2, y3⟩, ⟨y4, y5, y6, y7⟩⟩⟩ := hSw; go_simp; (try with_reducible rfl))
    try simp only [Act.put, List.setIfInBounds_toArray, List.set_cons_succ, List.set_cons_zero]
    refine anyK_take2 (i := 2) (v := ?v2) rfl (by kernel_rfl) (by kernel_rfl) (by kernel_rfl) (by rfl) (fun _ _ _ h => h) (by rfl) hHeld ?hy2 (some 19) (by rfl) ?rest2
    case hy2 => (intro W hSw; obtain ⟨⟨⟨x0, x1, x2, x3⟩, ⟨x4, x5, x6, x7⟩⟩, ⟨⟨y0, y1, y2, y3⟩, ⟨y4, y5, y6, y7⟩⟩⟩ := hSw; go_simp; (try with_reducible rfl))
    try simp only [Act.put, List.setIfInBounds_toArray, List.set_cons_succ, List.set_cons_zero]
    refine anyK_take2 (i := 3) (v := ?v3) rfl (by kernel_rfl) (by kernel_rfl) (by kernel_rfl) (by rfl) (fun _ _ _ h => h) (by rfl) hHeld ?hy3 (some 20) (by rfl) ?rest3
    case hy3 => (intro W hSw; obtain ⟨⟨⟨x0, x1, x2, x3⟩, ⟨x4, x5, x6, x7⟩⟩, ⟨⟨y0, y1, y2, y3⟩, ⟨y4, y5, y6, y7⟩⟩⟩ := hSw; go_simp; (try with_reducible rfl))
    try simp only [Act.put, List.setIfInBounds_toArray, List.set_cons_succ, List.set_cons_zero]
    refine anyK_take2 (i := 4) (v := ?v4) rfl (by kernel_rfl) (by kernel_rfl) (by kernel_rfl) (by rfl) (fun _ _ _ h => h) (by rfl) hHeld ?hy4 (some 21) (by rfl) ?rest4
    case hy4 => (intro W hSw; obtain ⟨⟨⟨x0, x1, x2, x3⟩, ⟨x4, x5, x6, x7⟩⟩, ⟨⟨y0, y1, y2, y3⟩, ⟨y4, y5, y6, y7⟩⟩⟩ := hSw; go_simp; (try with_reducible rfl))
    try simp only [Act.put, List.setIfInBounds_toArray, List.set_cons_succ, List.set_cons_zero]
    refine anyK_take2 (i := 5) (v := ?v5) rfl (by kernel_rfl) (by kernel_rfl) (by kernel_rfl) (by rfl) (fun _ _ _ h => h) (by rfl) hHeld ?hy5 (some 22) (by rfl) ?rest5
    case hy5 => (intro W hSw; obtain ⟨⟨⟨x0, x1, x2, x3⟩, ⟨x4, x5, x6, x7⟩⟩, ⟨⟨y0, y1, y2, y3⟩, ⟨y4, y5, y6, y7⟩⟩⟩ := hSw; go_simp; (try with_reducible rfl))
    try simp only [Act.put, List.setIfInBounds_toArray, List.set_cons_succ, List.set_cons_zero]
    refine anyK_take2 (i := 6) (v := ?v6) rfl (by kernel_rfl) (by kernel_rfl) (by kernel_rfl) (by rfl) (fun _ _ _ h => h) (by rfl) hHeld ?hy6 (some 23) (by rfl) ?rest6
    case hy6 => (intro W hSw; obtain ⟨⟨⟨x0, x1, x2, x3⟩, ⟨x4, x5, x6, x7⟩⟩, ⟨⟨y0, y1, y2, y3⟩, ⟨y4, y5, y6, y7⟩⟩⟩ := hSw; go_simp; (try with_reducible rfl))
    try simp only [Act.put, List.setIfInBounds_toArray, List.set_cons_succ, List.set_cons_zero]
    refine anyK_take2 (i := 7) (v := ?v7) rfl (by kernel_rfl) (by kernel_rfl) (by kernel_rfl) (by rfl) (fun _ _ _ h => h) (by rfl) hHeld ?hy7 (some 24) (by rfl) ?rest7
    case hy7 => (intro W hSw; obtain ⟨⟨⟨x0, x1, x2, x3⟩, ⟨x4, x5, x6, x7⟩⟩, ⟨⟨y0, y1, y2, y3⟩, ⟨y4, y5, y6, y7⟩⟩⟩ := hSw; go_simp; (try with_reducible rfl))
    try simp only [Act.put, List.setIfInBounds_toArray, List.set_cons_succ, List.set_cons_zero]
    refine anyK_step (i := 8) (by kernel_rfl) rfl (fun KP hK => ?_)
    go_simp
    refine (eqSpan K N F F' c1 c1' K2 N2 F2 F2' c2 c2' HF.out HF'.out HG.out HG'.out HSm.out HSm2.out R1.out R3.out R2.out R4.out hz2 hz3).mono ?_
    rintro e u ⟨rfl, b1⟩
    have HS2 := hid (hS.out.trans (b1.mono hS.out.size))
    replace BX := hid (BX.out.below b1 (Nat.le_refl _))
    replace BY := hid (BY.out.below b1 (Nat.le_refl _))
    replace BX2 := hid (BX2.out.below b1 (Nat.le_refl _))
    replace BY2 := hid (BY2.out.below b1 (Nat.le_refl _))
    clear b1
    go_wp2_with fail
    clear hHeld
    refine hK.out _ _ ⟨⟨BX.out, BX2.out⟩, ⟨BY.out, BY2.out⟩⟩ (fun hHeld => ?_)
    clear hK KP
    try simp only [Act.put, List.setIfInBounds_toArray, List.set_cons_succ, List.set_cons_zero]
    refine anyK_step (i := 9) (by kernel_rfl) rfl (fun KP hK => ?_)
    go_simp
    clear hHeld
    refine hK.out _ _ ⟨⟨BX.out, BX2.out⟩, ⟨BY.out, BY2.out⟩⟩ (fun hHeld => ?_)
    clear hK KP
    try simp only [Act.put, List.setIfInBounds_toArray, List.set_cons_succ, List.set_cons_zero]
    refine anyK_done (by kernel_rfl) ?_ _
    clear hHeld
    go_wp2_with fail
    go_roundw
    case rel => exact ⟨k + 1, by omega, by go_num, HS2⟩
    case measure => simp [intOf]; omega
  · have hlt' : ¬ (k : Int) < (n : Int) := by omega
    go_wp2
    go_ret
    exact ⟨rfl, hS.out⟩
end Go.Proofs.YtnbpblephmjfnaaGreat