/- The contract of the program's StatusRead: the array that is compared with the empty one. Conditions: slices of at most 2^40 bytes. -/
import Derived.Test.YtioefplkadpfnaaSi8
import Derived.Test.YtioefplkadpfnaaSe8
import Derived.ChangeKeysEq
namespace Go.Proofs.Ytioefplkadpfnaa
open Go.RowKit
set_option maxRecDepth 100000

theorem plain5 : Try.prog.plainKey 5 = true := by kernel_rfl
theorem cells5 : Try.prog.cellsOf 5 = 1 := by kernel_rfl
theorem guardA : Try.prog.eqGuardType Try.prog.depth 86 = false := by kernel_rfl
theorem sizeA : (Try.prog.info? 86).map (·.size) = some 101 := by kernel_rfl
theorem size5 : (Try.prog.info? 5).map (·.size) = some 1 := by kernel_rfl
theorem eq_items (d : Nat) (zs : List Int) (hl : zs.length = 101) (w : World) : ∀ is : List Nat, (∀ i ∈ is, i < 101) →
    (Op.eqItems (d + 1) 5 1 (bys zs).toArray zeroA is).run Try.prog w = .ok (is.all fun i => zs.getD i 0 == 0) w
  | [], _ => by simp [Op.eqItems]
  | i :: is, h => by
    have hi : i < 101 := h i (by simp)
    have p1 := run_part_plain (P := Try.prog) w plain5 (xs := (bys zs).toArray) (off := i * 1) (v := .int .u8 (zs.getD i 0)) (by
      rw [Nat.mul_one, List.getElem?_toArray, getD_bys, List.getElem?_eq_getElem (by omega), List.getD_eq_getElem?_getD, List.getElem?_eq_getElem (by omega)]; rfl)
    have p2 := run_part_plain (P := Try.prog) w plain5 (xs := zeroA) (off := i * 1) (v := .int .u8 0) (by
      rw [Nat.mul_one]; unfold zeroA; rw [List.getElem?_toArray, List.getElem?_replicate, if_pos hi])
    have p3 := run_equalIn_int (P := Try.prog) w d 5 .u8 .u8 (zs.getD i 0) 0 Try.underlying5
    have ih := eq_items d zs hl w is (fun j hj => h j (by simp [hj]))
    simp only [Op.eqItems, Sem.run_bind, p1, p2, p3, Result.andThen_ok, List.all_cons]
    cases hz : (zs.getD i 0 == 0)
    · simp
    · simpa using ih
theorem eq_arr (zs : List Int) (hl : zs.length = 101) (w : World) : (Op.equal 86 (.agg (bys zs).toArray) (.agg zeroA)).run Try.prog w = .ok (allZ zs) w := by
  unfold Op.equal
  have hi : ∃ i, Try.prog.info? 5 = some i := by
    obtain ⟨i0, hi, _⟩ := info_parts Try.info5
    exact ⟨i0, hi⟩
  obtain ⟨i0, hi⟩ := hi
  rw [show Op.maxDepth = 9998 + 1 + 1 from rfl, run_equalIn_array (P := Try.prog) w (9998 + 1) _ _ Try.underlying86 hi, cells5]
  exact eq_items 9998 zs hl w (List.range 101) (fun i hi => List.mem_range.1 hi)
theorem eq_arr2 (zs : List Int) (hl : zs.length = 101) (w : World) : (Op.equalIn 10000 86 (.agg (bys zs).toArray) (.agg zeroA)).run Try.prog w = .ok (allZ zs) w := eq_arr zs hl w
/-- copy of bytes into a row of the call's own: its run, written out. -/
theorem copyB_in {w w0 : World} {g off B n m : Nat} {t : TypeId} {cur : List Value} (hg : w.heap[g]? = some (.cells cur.toArray t (0, 0))) {ad dp : Option Addr} {zs : List Int} (hr : Reads w ad n zs)
    (hdp : 0 < n → dp = some ⟨g, off, none⟩) (hnm : n ≤ m) (hfit : off + n ≤ cur.length) (hb : Below B w0 w) (hBg : B ≤ g) (dCap sCap : Nat) :
    ∃ w', (Builtin.copy_ #[22, 22] 3 #[.slice dp m dCap, .slice ad n sCap]).run Try.prog w = .ok (goInt n) w' ∧ Hid (w'.heap[g]? = some (.cells (splice cur off (bys zs)).toArray t (0, 0))) ∧ Below B w0 w' ∧ w'.heap.size = w.heap.size := by
  have hl : (bys zs).length = n := by rw [bys_length, hr.len]
  by_cases h0 : n = 0
  · subst h0
    have e : bys zs = [] := List.eq_nil_of_length_eq_zero hl
    refine ⟨w, run_copy_none (P := Try.prog) w 22 22 3 5 dp ad m dCap 0 sCap Try.underlying22 size5 (Nat.min_eq_left (Nat.zero_le _)), ?_, hb, rfl⟩
    unfold Hid; rw [e]; simpa [splice] using hg
  · obtain rfl := hdp (by omega)
    rcases hr.cells with h | ⟨b, o, rfl, hc⟩
    · exact absurd h h0
    have hrun := run_copy_row (P := Try.prog) w 22 22 3 5 g off m dCap ⟨b, o, none⟩ n sCap cur.toArray t (bys zs) Try.underlying22 size5 hg (by rw [hl]; exact (Nat.min_eq_left hnm).symm) hr.news (by simpa [hl] using hfit) (bys_one _)
    rw [hl] at hrun
    refine ⟨_, hrun, ?_, below_setRow hb hBg _, by simp⟩
    unfold Hid splice
    rw [setRow_heap w g _ _ t _ hg, hl, List.append_assoc]
theorem splice_arrM (l : List Int) (M : Nat) : splice (List.replicate M (Value.int .u8 0)) 0 (bys l) = bys (grow l M) := by
  unfold splice grow
  simp [bys]
theorem splice_arr (l : List Int) : splice (List.replicate 101 (Value.int .u8 0)) 0 (bys l) = bys (grow l 101) := splice_arrM l 101

set_option maxHeartbeats 6400000 in
theorem impl_StatusRead_yes {ad : Option Addr} {n : Nat} (cap : Nat) {b : List Int} {w : World} (h : Reads w ad n b) (N : Nat) (hN : N ≤ 401) (hn : n = (N + 3) / 4) :
    Calls Try.prog 27 #[.slice ad n cap, .int .i64 N] w fun e w' => ∃ v, e = .returned (.tuple #[v, .bool (rdOk b N)]) ∧ w'.ownsRow w.heap.size 3 1 v (rdL b N).length (ins (rdL b N)) ∧ Below w.heap.size w w' := by
  obtain ⟨i0, hi, hz0, hz1, hz2⟩ := info_parts Try.infoI
  have hz := zero_arr
  have HR := hid h
  have HL := hid h.len
  have HLn := hid (show b.length = (N + 3) / 4 by rw [h.len]; exact hn)
  have HBD := hid h.bd
  have hn1 : n ≤ 101 := by omega
  have HW0 := hid (Below.alloc1 w (.cells zeroA 86))
  have HG0 := hid (heap_alloc_new w (.cells zeroA 86))
  obtain ⟨wc, hcp, hrc, hbc, hsz⟩ := copyB_in (g := w.heap.size) (off := 0) (m := 101) (cur := List.replicate 101 (.int .u8 0)) (dp := some ⟨w.heap.size, 0, none⟩) HG0.out (HR.out.below HW0.out (Nat.le_refl _)) (fun _ => rfl) hn1 (by rw [List.length_replicate]; omega) HW0.out (Nat.le_refl _) 101 cap
  have HA0 := hid (show Arr wc w.heap.size (rbs b 1) from ⟨by rw [rbs_one b (by rw [HL.out]; exact hn1) HBD.out, ← splice_arr b]; exact hrc.out, rbs_length _ _, rbs_bd _ _⟩)
  have HB0 := hid hbc
  have ZS0 := hid (show wc.heap.size = w.heap.size + 1 by rw [hsz]; simp)
  have HX := hid hn
  clear h hrc hbc hsz hn
  go_enter Try.func27, Try.ntmps27
  go_wp2_with fail
  refine (impl_in8 _ _ _ w).mono ?_
  rintro e w1 ⟨rfl, e1⟩
  subst w1
  rw [decide_eq_true (by omega)]
  go_wp2_with fail
  refine (impl_statusSize N (by omega) w).mono ?_
  rintro e w1 ⟨rfl, e1⟩
  subst w1
  rw [← HX.out]
  have qn : ((n : Int) != (n : Int)) = false := by simp
  go_wp2_with (at_make; refine wpList_make_full _ rfl _ _ 38 rfl wc.heap.size 3 i0 (.int .i64 0) 1 Try.underlying38 hi hz0 hz1 _ _ _ _ N rfl rfl (by omega) (by omega) (by rw [hz2]; omega) (by unfold maxLen; omega) (Nat.le_refl _) ?_)
  intro w0 hown0 hgrow0
  rw [toList_madeCells_one] at hown0
  have HO := hid hown0
  have HB := hid (HB0.out.grown hgrow0 (by have := ZS0.out; omega) (fun k h => by cases h))
  have HA := hid (show Arr w0 w.heap.size (rbs b 1) from HA0.out.below (B := wc.heap.size) ((Below.refl _ _).grown hgrow0 (Nat.le_refl _) (fun k h => by cases h)) (Nat.le_refl _))
  clear hown0 hgrow0 HA0 HB0 HG0 HW0 hcp hz
  obtain ⟨g, hg⟩ : ∃ g, wc.heap.size = g := ⟨_, rfl⟩
  rw [hg] at HO ZS0
  rw [hg]
  have hgw : g ≠ w.heap.size := by have := ZS0.out; omega
  have hgb : w.heap.size ≤ g := by have := ZS0.out; omega
  clear hg ZS0 HR
  go_wp2_with fail
  go_loopw [8] (fun i wr => ∃ k : Nat, 1 ≤ k ∧ k ≤ max N 1 ∧ i = .int .i64 k ∧ Hid (Arr wr w.heap.size (rbs b k)) ∧ Hid (wr.ownsRow g 3 1 (.slice (some ⟨g, 0, none⟩) N N) N (if k ≤ N then ins (tks b k) ++ List.replicate (N - k) (Value.int .i64 0) else [])) ∧ Hid (Below w.heap.size w wr)) (fun i _ => N - (intOf i).toNat)
  case atStart =>
    refine ⟨1, Nat.le_refl _, by omega, rfl, HA, hid ?_, HB⟩
    have o := HO.out
    by_cases h0 : 1 ≤ N
    · rw [if_pos h0]
      rw [show List.replicate N (Value.int .i64 0) = ins (tks b 1) ++ List.replicate (N - 1) (Value.int .i64 0) by
        rw [show N = (N - 1) + 1 by omega, List.replicate_succ]; simp [tks, ins, tkA]] at o
      exact o
    · rw [if_neg h0]
      rw [show List.replicate N (Value.int .i64 0) = [] by rw [show N = 0 by omega]; rfl] at o
      exact o
  case round =>
    obtain ⟨k, hk1, hk2, rfl, HA1, HO1, HB1⟩ := hrel
    clear HA HO HB
    by_cases hlt : k < N
    · have hlt' : (k : Int) < (N : Int) := by omega
      have hk0 : (0 : Int) ≤ (k : Int) := by omega
      have o1 := HO1.out
      rw [if_pos (Nat.le_of_lt hlt)] at o1
      have HO2 := hid o1
      clear o1 HO1
      have HT := hid (set_tk b k N hlt)
      have HE := hid (rbs_bits b k (by omega))
      obtain ⟨t, ht⟩ : ∃ t, tkA b k = t := ⟨_, rfl⟩
      have HTA := hid ht
      by_cases h3 : dz b k = 3
      · have ht0 : t = 0 := by rw [← ht]; unfold tkA; rw [if_pos (.inr h3)]
        subst ht0
        have HS := hid (rbs_same b k h3)
        clear ht
        go_wp2_with fail
        refine (take_is3 HA1.out (by omega) (by rw [HE.out]; exact h3)).mono ?_
        rintro e w1 ⟨rfl, st⟩
        replace HA1 := hid (HA1.out.below (st.below _) (Nat.le_refl _))
        replace HB1 := hid (HB1.out.trans (st.below _))
        replace HO2 := hid (st.owns HO2.out)
        clear st
        have hcy : ∃ v, w1.cell? ⟨g, k, none⟩ = some v := by
          rw [HO2.out.cellAt k (by omega)]
          exact ⟨_, List.getElem?_eq_getElem (by simp [ins_length, tks_length]; omega)⟩
        obtain ⟨v, hcy⟩ := hcy
        have hfr : w1.frozen? ⟨g, k, none⟩ = false := HO2.out.frozenAt k
        have R1 := hid (HO2.out.stored k (.int .i64 0))
        go_wp2_with fail
        go_roundw
        case rel =>
          refine ⟨k + 1, by omega, by omega, by go_num, hid ?_, hid ?_, hid (HB1.out.setCell hgb _)⟩
          · rw [HS.out]; exact ⟨(heap_setCell_other _ _ _ _ (fun e => hgw e.symm)).trans HA1.out.row, HA1.out.len, HA1.out.bd⟩
          · rw [if_pos (show k + 1 ≤ N by omega), ← HT.out, HTA.out]; exact R1.out.1
        case measure => simp [intOf]; omega
      · have ht1 : t = dz b k := by rw [← ht]; unfold tkA; rw [if_neg (by rintro (h1 | h1); omega; exact h3 h1)]
        have HD := hid ht1
        have HS := hid (rbs_set b k hk1 (by omega) h3)
        clear ht ht1
        go_wp2_with fail
        refine (take_no3 HA1.out (by omega) (by rw [HE.out]; exact h3)).mono ?_
        rintro e w1 ⟨rfl, hA, hgr⟩
        rw [HE.out, HS.out] at hA
        rw [HE.out, ← HD.out]
        replace HO2 := hid (own_other HO2.out hgr (fun q hq => by cases hq; exact fun e => hgw (Option.some.inj e).symm))
        replace HB1 := hid (HB1.out.grown hgr HB1.out.size (fun q hq => by cases hq; exact Nat.le_refl _))
        have HA2 := hid hA
        clear hA hgr HA1
        have hcy : ∃ v, w1.cell? ⟨g, k, none⟩ = some v := by
          rw [HO2.out.cellAt k (by omega)]
          exact ⟨_, List.getElem?_eq_getElem (by simp [ins_length, tks_length]; omega)⟩
        obtain ⟨v, hcy⟩ := hcy
        have hfr : w1.frozen? ⟨g, k, none⟩ = false := HO2.out.frozenAt k
        have R1 := hid (HO2.out.stored k (.int .i64 t))
        go_wp2_with fail
        go_roundw
        case rel =>
          refine ⟨k + 1, by omega, by omega, by go_num, hid ?_, hid ?_, hid (HB1.out.setCell hgb _)⟩
          · exact ⟨(heap_setCell_other _ _ _ _ (fun e => hgw e.symm)).trans HA2.out.row, HA2.out.len, HA2.out.bd⟩
          · rw [if_pos (show k + 1 ≤ N by omega), ← HT.out, HTA.out]; exact R1.out.1
        case measure => simp [intOf]; omega
    · have hlt' : ¬ (k : Int) < (N : Int) := by omega
      have hkN : k = max N 1 := by omega
      have HOK := hid (rdOk_all (b := b) hN HLn.out)
      rw [← hkN] at HOK
      have o2 : wr.ownsRow g 3 1 (.slice (some ⟨g, 0, none⟩) N N) N (ins (tks b N)) := by
        have o := HO1.out
        by_cases h0 : k ≤ N
        · obtain rfl : k = N := by omega
          rw [if_pos h0, Nat.sub_self] at o
          simpa using o
        · rw [if_neg h0] at o
          obtain rfl : N = 0 := by omega
          exact o
      have HO2 := hid o2
      have hz := zero_arr
      clear o2 HO1
      have heq := eq_arr2 (rbs b k) (rbs_length _ _) wr
      obtain ⟨r, hr⟩ : ∃ r, allZ (rbs b k) = r := ⟨_, rfl⟩
      rw [hr] at HOK heq
      clear hr hkN
      cases r with
      | true =>
        go_wp2_with (refine wpList_load_row rfl 86 (.tmp 6) rfl w.heap.size rfl 86 _ (0, 0) _ HA1.out.row Try.underlying86 rfl (by simp only [List.size_toArray, bys_length, rbs_length]; exact sizeA) ?_)
        go_ret2
        rw [HOK.out, ← tks_ok hN HLn.out HOK.out, tks_length]
        exact ⟨_, rfl, owns_lower8 HO2.out hgb, HB1.out⟩
      | false =>
        go_wp2_with (refine wpList_load_row rfl 86 (.tmp 6) rfl w.heap.size rfl 86 _ (0, 0) _ HA1.out.row Try.underlying86 rfl (by simp only [List.size_toArray, bys_length, rbs_length]; exact sizeA) ?_)
        go_ret2
        rw [HOK.out, rdL_no HOK.out]
        exact ⟨_, rfl, World.ownsRow_nil _ _ _ _, HB1.out⟩

set_option maxHeartbeats 1600000 in
theorem impl_StatusRead {ad : Option Addr} {n : Nat} (cap : Nat) {b : List Int} {w : World} (h : Reads w ad n b) (x : Int) :
    Calls Try.prog 27 #[.slice ad n cap, .int .i64 x] w fun e w' => ∃ v, e = .returned (.tuple #[v, .bool (rdOk b x)]) ∧ w'.ownsRow w.heap.size 3 1 v (rdL b x).length (ins (rdL b x)) ∧ Below w.heap.size w w' := by
  by_cases hx : 0 ≤ x ∧ x ≤ 401
  · obtain ⟨N, rfl⟩ : ∃ N : Nat, x = N := ⟨x.toNat, by omega⟩
    by_cases hn : n = (N + 3) / 4
    · exact impl_StatusRead_yes cap h N (by omega) hn
    · have hB : rdOk b N = false := rdOk_no (by rw [h.len, Int.toNat_natCast]; exact fun q => hn q.2)
      rw [hB, rdL_no hB]
      obtain ⟨y, hy⟩ : ∃ y, (N + 3) / 4 = y := ⟨_, rfl⟩
      have qn : ((n : Int) != (y : Int)) = true := by
        have : ¬ (n : Int) = (y : Int) := by omega
        simpa using this
      have hx4 : N ≤ 401 := by omega
      have HY := hid hy
      clear h hB hx hn hy
      go_enter Try.func27, Try.ntmps27
      go_wp2_with fail
      refine (impl_in8 _ _ _ w).mono ?_
      rintro e w1 ⟨rfl, e1⟩
      subst w1
      rw [decide_eq_true (by omega)]
      go_wp2_with fail
      refine (impl_statusSize N (by omega) w).mono ?_
      rintro e w1 ⟨rfl, e1⟩
      subst w1
      rw [HY.out]
      go_wp2_with fail
      go_ret2
      exact ⟨_, rfl, World.ownsRow_nil _ _ _ _, Below.refl _ _⟩
  · have hB : rdOk b x = false := rdOk_no (fun q => hx q.1)
    rw [hB, rdL_no hB]
    clear h hB
    go_enter Try.func27, Try.ntmps27
    go_wp2_with fail
    refine (impl_in8 _ _ _ w).mono ?_
    rintro e w1 ⟨rfl, e1⟩
    subst w1
    rw [decide_eq_false hx]
    go_wp2_with fail
    go_ret2
    exact ⟨_, rfl, World.ownsRow_nil _ _ _ _, Below.refl _ _⟩
end Go.Proofs.Ytioefplkadpfnaa
