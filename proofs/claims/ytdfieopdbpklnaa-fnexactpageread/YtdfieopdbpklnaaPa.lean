/- The contracts of the laws' helpers over slices of byte slices: toByteSS, eqByteSS, szByteS, szByteSS, markByteSS, heldByteSS; such a slice that came in, read. Conditions: lists of at most 2^21 bytes together where memory is made or counted. -/
import Derived.Test.YtdfieopdbpklnaaJt
import Derived.Test.YtdfieopdbpklnaaAl
import Derived.Deep.RegionHeld3
import Derived.Laws.Tables
import Derived.Deep.SlicePairs
import Derived.Deep.Matrix
import Derived.Lib.SmallJoins
namespace Go.Proofs.Ytdfieopdbpklnaa
open Go.RowKit Go.ChangeShapes Go.WideShapes Go.Deep
set_option maxRecDepth 100000

/-- What markByteSS leaves. -/
def mkS : Int → List (List Int) → List (List Int)
  | _, [] => []
  | k, z :: zs => marks k z.length :: mkS (k + z.length) zs

theorem mkS_length : ∀ (k : Int) (ss : List (List Int)), (mkS k ss).length = ss.length
  | _, [] => rfl
  | k, z :: zs => by simp [mkS, mkS_length]

theorem mkS_at : ∀ (k : Int) (ss : List (List Int)) (i : Nat), (mkS k ss).getD i [] = marks (k + tot (ss.take i)) (ss.getD i []).length
  | k, [], i => by simp [mkS, marks]
  | k, z :: zs, 0 => by simp [mkS, tot]
  | k, z :: zs, i + 1 => by
    have := mkS_at (k + z.length) zs i
    simp only [mkS, List.getD_cons_succ, List.take_succ_cons, tot]
    rw [this]
    congr 1
    omega

theorem mkS_tot : ∀ (k : Int) (ss : List (List Int)), tot (mkS k ss) = tot ss
  | _, [] => rfl
  | k, z :: zs => by simp [mkS, tot, marks_length, mkS_tot]

theorem set_mkS (k : Int) (ss : List (List Int)) (i : Nat) (h : i < ss.length) : (mkS k (ss.take i) ++ ss.drop i).set i (marks (k + tot (ss.take i)) (ss.getD i []).length) = mkS k (ss.take (i + 1)) ++ ss.drop (i + 1) := by
  have hl : (mkS k (ss.take i)).length = i := by rw [mkS_length, List.length_take]; omega
  rw [List.set_append_right _ _ (by omega), hl, Nat.sub_self, List.drop_eq_getElem_cons h, List.set_cons_zero]
  have e : mkS k (ss.take (i + 1)) = mkS k (ss.take i) ++ [marks (k + tot (ss.take i)) (ss.getD i []).length] := by
    apply List.ext_getElem?
    intro j
    have hl2 : (mkS k (ss.take (i + 1))).length = i + 1 := by rw [mkS_length, List.length_take]; omega
    by_cases hj : j < i + 1
    · have a1 := mkS_at k (ss.take (i + 1)) j
      rw [List.getD_eq_getElem?_getD, List.getElem?_eq_getElem (by omega)] at a1
      rw [List.getElem?_eq_getElem (by omega)]
      rw [Option.getD_some] at a1
      rw [a1]
      by_cases hj2 : j < i
      · have a2 := mkS_at k (ss.take i) j
        rw [List.getD_eq_getElem?_getD, List.getElem?_eq_getElem (by omega), Option.getD_some] at a2
        rw [List.getElem?_append_left (by omega), List.getElem?_eq_getElem (by omega), a2]
        simp only [List.take_take, show min j (i + 1) = j by omega, show min j i = j by omega]
        congr 2
        simp [List.getD, hj, hj2]
      · obtain rfl : j = i := by omega
        rw [List.getElem?_append_right (by omega), hl, Nat.sub_self]
        simp [List.take_take, List.getD]
    · rw [List.getElem?_eq_none (by omega), List.getElem?_eq_none (by simp [hl]; omega)]
  rw [e]
  simp

theorem Try.info22 : (Try.prog.info? 22).map (fun i => (i.zero, i.size, i.bytes)) = some (some (.slice none 0 0), 1, 24) := by kernel_rfl

theorem ReadsS.own {w : World} {lo lo' hi : Nat} {vS : Value} {ss : List (List Int)} {xs : List Value} (o : w.ownsRow lo 22 1 vS ss.length xs) (hB : Bands w lo' hi xs ss) : ∃ a c, vS = .slice a ss.length c ∧ ReadsS w a ss := by
  rcases o.2 with ⟨rfl, h0⟩ | ⟨g, cap, cur, rfl, _⟩
  · exact ⟨none, 0, by rw [h0], ⟨.inl h0⟩⟩
  · refine ⟨_, cap, rfl, ⟨.inr ⟨g, 0, rfl, fun i hi => ⟨xs.getD i nilS, ?_, hB.row i⟩⟩⟩⟩
    rw [Nat.zero_add, o.cellAt i (by omega), List.getD_eq_getElem?_getD]
    have hl := hB.len
    rw [List.getElem?_eq_getElem (by omega)]
    rfl

theorem toList_madeCells_one' (z : Value) (n : Nat) : (madeCells #[z] n).toList = List.replicate n z := toList_madeCells_one z n

theorem rep_drop (xs : List Value) (k n : Nat) (z v : Value) (hx : xs.length = k) (hk : k < n) : (xs ++ List.replicate (n - k) z).set k v = (xs ++ [v]) ++ List.replicate (n - (k + 1)) z := by
  rw [List.set_append_right _ _ (by omega), hx, Nat.sub_self, show n - k = (n - (k + 1)) + 1 by omega, List.replicate_succ, List.set_cons_zero]
  simp

theorem take_snoc {α : Type} (xs : List α) (k : Nat) (d : α) (h : k < xs.length) : xs.take (k + 1) = xs.take k ++ [xs.getD k d] := by
  rw [List.take_add_one, List.getElem?_eq_getElem h, Option.toList_some]
  simp [List.getD, h]

set_option maxRecDepth 100000 in
set_option maxHeartbeats 1600000 in
theorem toByteSS {ad : Option Addr} {n : Nat} (cap : Nat) {ss : List (List Int)} {w : World} (h : ReadsS w ad ss) (hl : ss.length = n) (hn : n ≤ 2097152) (hb : ∀ i, (ss.getD i []).length ≤ 2097152) :
    Calls Try.prog 65 #[.slice ad n cap] w fun e w' => ∃ xs, e = .returned (.slice (some ⟨w.heap.size, 0, none⟩) n n) ∧ w'.ownsRow w.heap.size 22 1 (.slice (some ⟨w.heap.size, 0, none⟩) n n) n xs ∧ Bands w' w.heap.size w'.heap.size xs ss ∧ Below w.heap.size w w' := by
  obtain ⟨i0, hi, hz0, hz1, hz2⟩ := info_parts Try.info22
  go_enter Try.func65, Try.ntmps65
  go_wp2_with (at_make; refine wpList_make_full _ rfl _ _ 24 rfl w.heap.size 22 i0 (.slice none 0 0) 1 Try.underlying24 hi hz0 hz1 _ _ _ _ n rfl rfl (by omega) (by omega) ?b2 ?b3 (Nat.le_refl _) ?_)
  case b2 => rw [hz2]; omega
  case b3 => unfold maxLen; omega
  intro w0 hown0 hgrow0
  go_wp2
  go_loopw [4] (fun i wr => ∃ (k : Nat) (xs : List Value), k ≤ n ∧ i = .int .i64 k ∧ xs.length = k ∧ Hid (wr.ownsRow w.heap.size 22 1 (.slice (some ⟨w.heap.size, 0, none⟩) n n) n (xs ++ List.replicate (n - k) nilS)) ∧ Hid (Bands wr w.heap.size wr.heap.size xs (ss.take k)) ∧ Hid (Below w.heap.size w wr))
    (fun i _ => n - (intOf i).toNat)
  case atStart =>
    refine ⟨0, [], Nat.zero_le _, rfl, rfl, hid ?_, hid (by rw [List.take_zero]; exact Bands.nil _ _ _), hid ((Below.refl _ _).grown hgrow0 (Nat.le_refl _) (fun k h => by cases h))⟩
    rw [toList_madeCells_one] at hown0
    simpa [nilS] using hown0
  case round =>
    obtain ⟨k, xs, hk, rfl, hx, hown, hB, hnx⟩ := hrel
    by_cases hlt : k < n
    · have hlt' : (k : Int) < (n : Int) := by omega
      rcases h.cells with h0 | ⟨b, off, rfl, hc⟩
      · omega
      obtain ⟨v, hcx0, a, c, rfl, hr0, hnil, hmx⟩ := hc k (by omega)
      have hbl := World.block_lt_of_cell? w _ hcx0
      have hcx : wr.cell? ⟨b, off + k, none⟩ = some (.slice a (ss.getD k []).length c) := (hnx.out.cell (by exact hbl)).trans hcx0
      have hr := hid (hr0.below hnx.out (Nat.le_refl _))
      have hlen := hb k
      have HT := hid (take_snoc ss k [] (by omega))
      have Hbd := hid hr0.bd
      generalize ss.getD k [] = zs at *
      obtain ⟨m, hm⟩ : ∃ m, zs.length = m := ⟨_, rfl⟩
      rw [hm] at hcx hlen hr
      have HM := hid hm
      clear hc hcx0 hr0 hnil hmx hm hown0 hgrow0
      go_wp2_with fail
      refine (toByteS_any c hr.out (by omega)).mono ?_
      rintro e w1 ⟨rfl, o, b1⟩
      have hown1 := owns_below b1 (by have := hnx.out.size; omega) hown.out
      have hcy : ∃ v, w1.cell? ⟨w.heap.size, k, none⟩ = some v := by
        rw [hown1.cellAt k (by omega)]
        exact ⟨_, List.getElem?_eq_getElem (by simp; omega)⟩
      obtain ⟨v, hcy⟩ := hcy
      have hfr : w1.frozen? ⟨w.heap.size, k, none⟩ = false := hown1.frozenAt k
      have R := hown1.stored k (.slice (some ⟨wr.heap.size, 0, none⟩) m m)
      rw [rep_drop xs k n nilS _ hx hlt] at R
      have hB1 : Bands w1 w.heap.size w1.heap.size (xs ++ [.slice (some ⟨wr.heap.size, 0, none⟩) m m]) (ss.take (k + 1)) := by
        rw [HT.out]
        exact (hB.out.agree (Agree.below b1 (Nat.le_refl _))).snoc (by have := hnx.out.size; omega) b1.size (by rw [HM.out]; exact o) Hbd.out (Nat.le_refl _)
      have hB2 := hid (hB1.beside R.2 (fun i => owns_ne (hB1.own i) hown1 (by decide)))
      have R1 := hid R
      have B2 := hid ((hnx.out.trans (b1.mono hnx.out.size)).setCell (p := ⟨w.heap.size, k, none⟩) (Nat.le_refl _) (.slice (some ⟨wr.heap.size, 0, none⟩) m m))
      clear R hB1 hown1 o b1
      go_wp2_with fail
      go_roundw
      case rel => exact ⟨k + 1, xs ++ [.slice (some ⟨wr.heap.size, 0, none⟩) m m], by omega, by go_num, by simp [hx], hid R1.out.1, hid (by simpa using hB2.out), hid B2.out⟩
      case measure => simp [intOf]; omega
    · go_wp2
      go_ret
      have hkn : k = n := by omega
      subst hkn
      refine ⟨xs, rfl, ?_, ?_, hnx.out⟩
      · have := hown.out
        simpa using this
      · have := hB.out
        rw [List.take_of_length_le (by omega)] at this
        exact this

set_option maxRecDepth 100000 in
set_option maxHeartbeats 1600000 in
theorem eqByteSS {ad ad' : Option Addr} {n : Nat} (cap cap' : Nat) {ss : List (List Int)} {w : World} (h : ReadsS w ad ss) (h' : ReadsS w ad' ss) (hl : ss.length = n) (hn : n ≤ 2097152) (hb : ∀ i, (ss.getD i []).length ≤ 2097152) :
    Calls Try.prog 66 #[.slice ad n cap, .slice ad' n cap'] w fun e w' => e = .returned (.bool true) ∧ Still w w' := by
  go_enter Try.func66, Try.ntmps66
  go_wp2
  go_loopw [5] (fun i wr => ∃ k : Nat, k ≤ n ∧ i = .int .i64 k ∧ Hid (Still w wr)) (fun i _ => n - (intOf i).toNat)
  case atStart => exact ⟨0, Nat.zero_le _, rfl, hid (Still.refl _)⟩
  case round =>
    obtain ⟨k, hk, rfl, hS⟩ := hrel
    by_cases hlt : k < n
    · have hlt' : (k : Int) < (n : Int) := by omega
      have hk0 : (0 : Int) ≤ (k : Int) := by omega
      rcases h.cells with h0 | ⟨b, off, rfl, hc⟩
      · omega
      rcases h'.cells with h0 | ⟨b', off', rfl, hc'⟩
      · omega
      obtain ⟨v, hcx0, a, c, rfl, hr0, _, _⟩ := hc k (by omega)
      obtain ⟨v', hcy0, a', c', rfl, hr0', _, _⟩ := hc' k (by omega)
      have hcx := (hS.out.cell _).trans hcx0
      have hcy := (hS.out.cell _).trans hcy0
      have hr := hid (hS.out.reads hr0)
      have hr' := hid (hS.out.reads hr0')
      have hlen := hb k
      generalize ss.getD k [] = zs at *
      obtain ⟨m, hm⟩ : ∃ m, zs.length = m := ⟨_, rfl⟩
      rw [hm] at hcx hcy hlen hr hr'
      clear hc hc' hcx0 hcy0 hr0 hr0' hm
      go_wp2
      go_region_held3 (fun W => W.cell? ⟨b, off + k, none⟩ = some (.slice a m c) ∧ W.cell? ⟨b', off' + k, none⟩ = some (.slice a' m c')) (first | exact ⟨k0, k1⟩ | exact ⟨by simpa using hcx, by simpa using hcy⟩)
        (first
        | (go_at_call 31; refine (eqByteS_any c c' ((Still.drewN wr _).reads hr.out) ((Still.drewN wr _).reads hr'.out) (by omega)).mono ?_; rintro e u ⟨rfl, st⟩; have k0 := (st.cell _).trans ((Still.cell (Still.drewN wr _) _).trans hcx); have k1 := (st.cell _).trans ((Still.cell (Still.drewN wr _) _).trans hcy)))
      have HS := hid ((hS.out.trans (Still.drewN wr _)).trans st)
      clear st k0 k1
      go_wp2
      go_roundw
      case rel => exact ⟨k + 1, by omega, by go_num, HS⟩
      case measure => simp [intOf]; omega
    · go_wp2
      go_ret
      exact ⟨rfl, hS.out⟩

/-- What is left, or -1. -/
def lft (left : Int) (n : Nat) : Int := if left < n then -1 else left - n

theorem szByteSp (ad : Option Addr) (n cap : Nat) (left : Int) (hn : n ≤ 9223372036854775807) (h0 : 0 ≤ left) (h1 : left ≤ 1048576) (w : World) :
    Calls Try.prog 83 #[.slice ad n cap, .int .i64 left] w fun e w' => e = .returned (.int .i64 (lft left n)) ∧ w' = w := by
  unfold lft
  have a1 : (0 : Int) ≤ (n : Int) := by omega
  have a2 : (n : Int) ≤ 9223372036854775807 := by omega
  by_cases h : left < n
  · rw [if_pos h]
    have q : left - (n : Int) < 0 := by omega
    go_enter Try.func83, Try.ntmps83
    go_wp2
    go_ret
    exact ⟨rfl, rfl⟩
  · rw [if_neg h]
    have q : ¬ left - (n : Int) < 0 := by omega
    go_enter Try.func83, Try.ntmps83
    go_wp2
    go_ret
    exact ⟨rfl, rfl⟩

set_option maxRecDepth 100000 in
set_option maxHeartbeats 1600000 in
theorem szByteSS {ad : Option Addr} {n : Nat} (cap : Nat) {ss : List (List Int)} {w : World} (h : ReadsS w ad ss) (hl : ss.length = n) (hn : n ≤ 9223372036854775807) (left : Int) (h0 : 0 ≤ left) (h1 : left ≤ 1048576) :
    Calls Try.prog 64 #[.slice ad n cap, .int .i64 left] w fun e w' => e = .returned (.int .i64 (lft left (n + tot ss))) ∧ w' = w := by
  have a1 : (0 : Int) ≤ (n : Int) := by omega
  have a2 : (n : Int) ≤ 9223372036854775807 := by omega
  by_cases hbig : left < n
  · have q : left - (n : Int) < 0 := by omega
    have HE := hid (show lft left (n + tot ss) = -1 by unfold lft; rw [if_pos (by omega)])
    go_enter Try.func64, Try.ntmps64
    go_wp2
    go_ret
    exact ⟨by rw [HE.out]; rfl, rfl⟩
  have q : ¬ left - (n : Int) < 0 := by omega
  have hn2 : n ≤ 1048576 := by omega
  obtain ⟨L, hL⟩ : ∃ L : Int, left - n = L := ⟨_, rfl⟩
  have hL0 : 0 ≤ L := by omega
  have hL1 : L ≤ 1048576 := by omega
  have HG := hid (show ∀ t : Nat, lft left (n + t) = lft L t by intro t; unfold lft; by_cases hh : L < t; rw [if_pos (by omega), if_pos hh]; rw [if_neg (by omega), if_neg hh]; omega)
  have HL := hid hL
  go_enter Try.func64, Try.ntmps64
  go_wp2
  clear hL q
  go_loopw [1, 5] (fun l i wr => ∃ (k : Nat) (x : Int), k ≤ n ∧ i = .int .i64 k ∧ l = .int .i64 x ∧ 0 ≤ x ∧ x ≤ 1048576 ∧ Hid (x = L - tot (ss.take k)) ∧ wr = w) (fun _ i _ => n - (intOf i).toNat)
  case atStart => exact ⟨0, L, Nat.zero_le _, rfl, rfl, hL0, hL1, hid (by simp [tot]), rfl⟩
  case round =>
    obtain ⟨k, x, hk, rfl, rfl, hx0, hx1, HX, rfl⟩ := hrel
    by_cases hlt : k < n
    · have hlt' : (k : Int) < (n : Int) := by omega
      have hk0 : (0 : Int) ≤ (k : Int) := by omega
      rcases h.cells with h0 | ⟨b, off, rfl, hc⟩
      · omega
      obtain ⟨v, hcx, a, c, rfl, hr0, _, hmx⟩ := hc k (by omega)
      unfold maxLen at hmx
      have HT := hid (tot_step ss k (by omega))
      have HU := hid (tot_take ss (k + 1))
      generalize ss.getD k [] = zs at *
      obtain ⟨m, hm⟩ : ∃ m, zs.length = m := ⟨_, rfl⟩
      rw [hm] at hcx hmx HT
      clear hc hr0 hm
      by_cases hbm : x < m
      · have HE := hid (show lft x m = -1 by unfold lft; rw [if_pos hbm])
        go_wp2_with fail
        refine (szByteSp a m c x (by omega) (by omega) (by omega) _).mono ?_
        rintro e w1 ⟨rfl, rfl⟩
        rw [HE.out]
        go_wp2_with fail
        go_ret
        refine ⟨?_, rfl⟩
        rw [HG.out]
        unfold lft
        rw [if_pos (by have := HT.out; have := HU.out; have := HX.out; omega)]
        rfl
      · obtain ⟨y, hy⟩ : ∃ y : Int, x - m = y := ⟨_, rfl⟩
        have HE := hid (show lft x m = y by unfold lft; rw [if_neg hbm, hy])
        have hy0 : 0 ≤ y := by omega
        have hy1 : y ≤ 1048576 := by omega
        have hy2 : ¬ y < 0 := by omega
        have HY := hid hy
        clear hy
        go_wp2_with fail
        refine (szByteSp a m c x (by omega) (by omega) (by omega) _).mono ?_
        rintro e w1 ⟨rfl, rfl⟩
        rw [HE.out]
        go_wp2_with fail
        go_roundw
        case rel => exact ⟨k + 1, y, by omega, by go_num, rfl, hy0, hy1, hid (by have := HT.out; have := HX.out; have := HY.out; omega), by first | trivial | rfl⟩
        case measure => simp [intOf]; omega
    · have hlt' : ¬ (k : Int) < (n : Int) := by omega
      go_wp2
      go_ret
      refine ⟨?_, rfl⟩
      rw [HG.out]
      have := HX.out
      rw [List.take_of_length_le (by omega)] at this
      unfold lft
      rw [if_neg (by omega), this]
      rfl

theorem getD_left {α : Type} (xs ys : List α) (i : Nat) (d : α) (h : i < xs.length) : (xs ++ ys).getD i d = xs.getD i d := by rw [getD_app, if_pos h]

theorem getD_right {α : Type} (xs ys : List α) (i : Nat) (d : α) : (xs ++ ys).getD (xs.length + i) d = ys.getD i d := by rw [getD_app, if_neg (by omega), show xs.length + i - xs.length = i by omega]

theorem mkdrop_at (k : Int) (ss : List (List Int)) (i : Nat) (h : i < ss.length) : (mkS k (ss.take i) ++ ss.drop i).getD i [] = ss.getD i [] := by
  have hl : (mkS k (ss.take i)).length = i := by rw [mkS_length, List.length_take]; omega
  rw [getD_app, if_neg (by omega), hl, Nat.sub_self]
  simp [List.getD]

theorem cell_getD {w : World} {lo n : Nat} {g cap : Nat} {xs : List Value} (o : w.ownsRow lo 22 1 (.slice (some ⟨g, 0, none⟩) n cap) n xs) {i : Nat} (hi : i < n) : w.cell? ⟨g, i, none⟩ = some (xs.getD i nilS) := by
  rw [o.cellAt i (by omega), List.getD_eq_getElem?_getD]
  have := o.1
  rw [List.getElem?_eq_getElem (by omega)]
  rfl

set_option maxRecDepth 100000 in
set_option maxHeartbeats 1600000 in
theorem markByteSS {lo hi n : Nat} {vS : Value} {e1 : TypeId} {s1 n1 : Nat} {vW : Value} {cs : List Value} {xs ys : List Value} {ss ts : List (List Int)} {w : World} (k : Int) (hne : e1 ≠ 5) (hl : ss.length = n) (hx : xs.length = n) (hn : n ≤ 2097152) (ht : tot ss ≤ 2097152) (hk0 : 0 ≤ k) (hk1 : k ≤ 500000000)
    (oS : w.ownsRow lo 22 1 vS n xs) (oW : w.ownsRow lo e1 s1 vW n1 cs) (hB : Bands w lo hi (xs ++ ys) (ss ++ ts)) :
    Calls Try.prog 67 #[vS, .int .i64 k] w fun e w' => e = .returned (.int .i64 (k + tot ss)) ∧ w'.ownsRow lo 22 1 vS n xs ∧ w'.ownsRow lo e1 s1 vW n1 cs ∧ Bands w' lo hi (xs ++ ys) (mkS k ss ++ ts) ∧ Within lo hi w w' := by
  rcases oS.2 with ⟨rfl, h0⟩ | ⟨g, cap, cur, rfl, _⟩
  · subst h0
    obtain rfl : ss = [] := List.eq_nil_of_length_eq_zero hl
    have O1 := hid oS
    have O2 := hid oW
    have O3 := hid hB
    clear oS oW hB
    go_enter Try.func67, Try.ntmps67
    go_wp2
    go_loopw [1, 5] (fun kk i wr => i = .int .i64 (0 : Nat) ∧ kk = .int .i64 k ∧ wr = w) (fun _ _ _ => 0)
    case atStart => exact ⟨rfl, rfl, rfl⟩
    case round =>
      obtain ⟨rfl, rfl, rfl⟩ := hrel
      go_wp2
      go_ret
      exact ⟨by simp [tot], O1.out, O2.out, O3.out, Within.refl _ _ _⟩
  · have O1 := hid oS
    have O2 := hid oW
    have O3 := hid hB
    clear oS oW hB
    go_enter Try.func67, Try.ntmps67
    go_wp2
    go_loopw [1, 5] (fun kk i wr => ∃ (j : Nat) (q : Int), j ≤ n ∧ i = .int .i64 j ∧ kk = .int .i64 q ∧ 0 ≤ q ∧ q ≤ 1000000000 ∧ Hid (q = k + tot (ss.take j)) ∧ Hid (wr.ownsRow lo 22 1 (.slice (some ⟨g, 0, none⟩) n cap) n xs) ∧ Hid (wr.ownsRow lo e1 s1 vW n1 cs) ∧ Hid (Bands wr lo hi (xs ++ ys) ((mkS k (ss.take j) ++ ss.drop j) ++ ts)) ∧ Hid (Within lo hi w wr)) (fun _ i _ => n - (intOf i).toNat)
    case atStart => exact ⟨0, k, Nat.zero_le _, rfl, rfl, hk0, by omega, hid (by simp [tot]), O1, O2, hid (by simpa [mkS] using O3.out), hid (Within.refl _ _ _)⟩
    case round =>
      obtain ⟨j, q, hj, rfl, rfl, hq0, hq1, HQ, hS, hW, hB, hG⟩ := hrel
      by_cases hlt : j < n
      · have hlt' : (j : Int) < (n : Int) := by omega
        have hj0 : (0 : Int) ≤ (j : Int) := by omega
        have hc := cell_getD hS.out hlt
        have ho := hB.out.own j
        have hlW : (mkS k (ss.take j) ++ ss.drop j).length = n := by rw [List.length_append, mkS_length, List.length_take, List.length_drop]; omega
        rw [getD_left xs ys j nilS (by omega), getD_left _ ts j [] (by omega), mkdrop_at k ss j (by omega)] at ho
        have HT := hid (tot_step ss j (by omega))
        have HU := hid (tot_take ss (j + 1))
        have HSt := hid (set_mkS k ss j (by omega))
        generalize ss.getD j [] = zs at *
        obtain ⟨m, hm'⟩ : ∃ m, zs.length = m := ⟨_, rfl⟩
        rw [hm'] at ho HT HSt
        clear hm'
        have HO' := hid ho
        rcases ho.2 with ⟨hv, hm⟩ | ⟨g', cap', cur', hv, hrest⟩
        all_goals
          have HO := hid HO'.out
          rw [hv] at HO hc
          have HV := hid hv
          clear hv ho HO'
          first | clear hm | clear hrest
          go_wp2_with fail
          refine (markByteS_any q (by have := HT.out; have := HU.out; omega) (by omega) (by omega) HO.out).mono ?_
          rintro e w1 ⟨rfl, o1, g1⟩
          have hp := hB.out.put (i := j) (z := marks q m) (by rw [List.length_append, hlW]; omega) (by rw [getD_left xs ys j nilS (by omega), HV.out]; exact g1) (by rw [getD_left xs ys j nilS (by omega), HV.out, marks_length]; exact o1) (marks_bd q m)
          rw [List.set_append_left _ _ (by omega), HQ.out, HSt.out] at hp
          have N1 := hid (hS.out.kept g1 (owns_ne hS.out HO.out (by decide)))
          have N2 := hid (hW.out.kept g1 (owns_ne hW.out HO.out hne))
          have N3 := hid hp
          have N4 := hid (hG.out.trans (Within.grown g1 (fun k' hk' => by have := hB.out.inr j; rw [getD_left xs ys j nilS (by omega), HV.out] at this; exact this k' hk')))
          clear o1 g1 hp
          go_wp2_with fail
          go_roundw
          case rel => exact ⟨j + 1, q + m, by omega, by go_num, rfl, by omega, by have := HT.out; have := HU.out; have := HQ.out; omega, hid (by have := HT.out; have := HQ.out; omega), N1, N2, N3, N4⟩
          case measure => simp [intOf]; omega
      · have hlt' : ¬ (j : Int) < (n : Int) := by omega
        go_wp2
        go_ret
        have hQ := HQ.out
        have h3 := hB.out
        rw [List.take_of_length_le (by omega)] at hQ h3
        rw [List.drop_eq_nil_of_le (by omega), List.append_nil] at h3
        exact ⟨by rw [hQ]; rfl, hS.out, hW.out, h3, hG.out⟩

set_option maxRecDepth 100000 in
set_option maxHeartbeats 1600000 in
theorem heldByteSS {ad : Option Addr} {n : Nat} (cap : Nat) {ss : List (List Int)} {w : World} (k : Int) (h : ReadsS w ad (mkS k ss)) (hl : ss.length = n) (hn : n ≤ 2097152) (ht : tot ss ≤ 2097152) (hk0 : 0 ≤ k) (hk1 : k ≤ 500000000) :
    Calls Try.prog 68 #[.slice ad n cap, .int .i64 k] w fun e w' => e = .returned (.int .i64 (k + tot ss)) ∧ w' = w := by
  go_enter Try.func68, Try.ntmps68
  go_wp2
  go_loopw [1, 5] (fun kk i wr => ∃ (j : Nat) (q : Int), j ≤ n ∧ i = .int .i64 j ∧ kk = .int .i64 q ∧ 0 ≤ q ∧ q ≤ 1000000000 ∧ Hid (q = k + tot (ss.take j)) ∧ wr = w) (fun _ i _ => n - (intOf i).toNat)
  case atStart => exact ⟨0, k, Nat.zero_le _, rfl, rfl, hk0, by omega, hid (by simp [tot]), rfl⟩
  case round =>
    obtain ⟨j, q, hj, rfl, rfl, hq0, hq1, HQ, rfl⟩ := hrel
    by_cases hlt : j < n
    · have hlt' : (j : Int) < (n : Int) := by omega
      have hj0 : (0 : Int) ≤ (j : Int) := by omega
      have hlm := mkS_length k ss
      rcases h.cells with h0 | ⟨b, off, rfl, hc⟩
      · omega
      obtain ⟨v, hcx, a, c, rfl, hr0, _, _⟩ := hc j (by omega)
      rw [mkS_at, ← HQ.out, marks_length] at hcx hr0
      have HT := hid (tot_step ss j (by omega))
      have HU := hid (tot_take ss (j + 1))
      generalize (ss.getD j []).length = m at *
      have HR := hid hr0
      have hq2 : ¬ (q + (m : Int)) < 0 := by omega
      clear hc hr0 hlm
      go_wp2_with fail
      refine (heldByteS_any c q HR.out (by have := HT.out; have := HU.out; omega) (by omega) (by omega)).mono ?_
      rintro e w1 ⟨rfl, rfl⟩
      go_wp2_with fail
      go_roundw
      case rel => exact ⟨j + 1, q + m, by omega, by go_num, rfl, by omega, by have := HT.out; have := HU.out; have := HQ.out; omega, hid (by have := HT.out; have := HQ.out; omega), by first | trivial | rfl⟩
      case measure => simp [intOf]; omega
    · have hlt' : ¬ (j : Int) < (n : Int) := by omega
      go_wp2
      go_ret
      have hQ := HQ.out
      rw [List.take_of_length_le (by omega)] at hQ
      exact ⟨by rw [hQ]; rfl, rfl⟩

theorem addr_plain {w : World} {a : Addr} {v : Value} (h : w.cell? (a.add 0) = some v) : ∃ b off, a = ⟨b, off, none⟩ := by
  obtain ⟨b, off, spot⟩ := a
  have hspot : spot = none := by simpa [Addr.add] using World.cell?_spot h
  subst hspot
  exact ⟨b, off, rfl⟩

theorem add_at (b off k : Nat) : (⟨b, off, none⟩ : Addr).add k = ⟨b, off + k, none⟩ := Go.WideShapes.add_plain b off k

theorem row_in {w : World} {a : Option Addr} {len cap : Nat} {zs : List Int}
    (h : (a = none ∧ len = 0 ∧ cap = 0 ∧ zs = []) ∨ ∃ x, a = some x ∧ len ≤ cap ∧ cap ≤ maxLen ∧ zs.length = cap ∧ (∀ i, i < zs.length → w.cell? (x.add i) = some (.int .u8 (zs.getD i 0))) ∧ ∀ n ∈ zs, (Lit.int .u8 n).wf = true) :
    Row w (.slice a len cap) (zs.take len) := by
  have r := reads_in h
  have hl := r.len
  have hm := len_in h
  refine ⟨a, cap, by rw [hl], by rw [hl]; exact r, ?_, by omega⟩
  intro ha
  rcases h with ⟨_, _, h, _⟩ | ⟨x, hx, _⟩
  · exact h
  · rw [ha] at hx; cases hx

section
variable {H : Type} {enc : TypeId × Value → H} {w : World} {base : Nat} {held : Bool}
theorem sectors_in {fuel : Nat} {v : Value} {x : DataW H × List MemPlace} (h : DataW.trod enc Try.prog w base (fun _ => true) held fuel 24 [v] = some x) :
    ∃ a n c ss, v = .slice a n c ∧ ss.length = n ∧ n ≤ maxLen ∧ ReadsS w a ss := by
  rcases open_int_rows (k := .u8) Try.underlying24 Try.underlying22 Try.underlying5 (by kernel_rfl) (by kernel_rfl) h with ⟨hcs, _⟩ | ⟨a, len, cap, A, L, C, Z, hcs, _, hlc, hcm, _, hx⟩
  · exact ⟨none, 0, 0, [], by simpa using hcs, rfl, Nat.zero_le _, ⟨.inl rfl⟩⟩
  · refine ⟨some a, len, cap, (List.range len).map fun r => (Z r).take (L r), by simpa using hcs, by simp, Nat.le_trans hlc hcm, ⟨?_⟩⟩
    by_cases h0 : len = 0
    · left; simp [h0]
    · right
      obtain ⟨b, off, rfl⟩ := addr_plain (hx 0 (by omega)).1
      refine ⟨b, off, rfl, fun i hi => ?_⟩
      simp only [List.length_map, List.length_range] at hi
      obtain ⟨h1, h2, h3, h4, h5, h6, h7⟩ := hx i (by omega)
      rw [add_at] at h1
      refine ⟨_, h1, ?_⟩
      rw [show ((List.range len).map fun r => (Z r).take (L r)).getD i [] = (Z i).take (L i) by simp [List.getD, hi]]
      refine row_in ?_
      cases hA : A i with
      | none =>
        have hC := h6 hA
        exact .inl ⟨rfl, by omega, hC, List.eq_nil_of_length_eq_zero (by omega)⟩
      | some y => exact .inr ⟨y, rfl, h2, h3, h4, fun c hc => (h7 y hA).2 c (by omega), h5⟩

end
end Go.Proofs.Ytdfieopdbpklnaa
