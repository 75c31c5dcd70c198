/- The program's linkedOf, TreeOk and TreeHeight. Conditions: texts of at most 2^21 bytes. -/
import Derived.Test.YtnjofaiekofamaaKt11
namespace Go.Proofs.Ytnjofaiekofamaa
open Go.RowKit
set_option maxRecDepth 100000

theorem hgt_le (ns : List Nd) : ∀ (f : Nat) (x : Int), hgt ns f x ≤ f + 1
  | 0, _ => by simp [hgt]
  | f + 1, x => by
    unfold hgt
    simp only
    split
    · omega
    · have := hgt_le ns f ((ns.getD x.toNat nd0).ks.getD 0 0); omega

set_option maxHeartbeats 1600000 in
theorem impl_Index {w : World} {r N : Nat} {sd : List Bool} (h : NRow w r N sd) (hN : N ≤ 300) :
    Calls Try.prog 107 #[.slice (some ⟨r, 0, none⟩) N N, .pointer none] w fun e w' => ∃ y : Int, e = .returned (.int .i64 y) ∧ Hid (decide (0 ≤ y) = !sd.all id) ∧ Hid (-1 ≤ y ∧ y ≤ 300) ∧ w' = w := by
  have HR := hid h
  clear h
  go_enter Try.func107, Try.ntmps107
  go_wp2_with fail
  go_loopw [8] (fun i wr => ∃ k : Nat, k ≤ N ∧ i = .int .i64 k ∧ Hid (∀ j, j < k → sd.getD j true = true) ∧ wr = w) (fun i _ => N - (intOf i).toNat)
  case atStart => exact ⟨0, Nat.zero_le _, rfl, hid (fun j hj => by omega), rfl⟩
  case round =>
    obtain ⟨k, hk, rfl, HA, rfl⟩ := hrel
    by_cases hlt : k < N
    · have hlt' : (k : Int) < (N : Int) := by omega
      have hk0 : (0 : Int) ≤ (k : Int) := by omega
      obtain ⟨o, hc, ho⟩ := HR.out.at hlt
      cases o with
      | none =>
        have HO := hid ho
        clear ho
        go_wp2_with fail
        go_ret
        refine ⟨(k : Int), rfl, hid ?_, hid ⟨by omega, by omega⟩, rfl⟩
        rw [decide_eq_true hk0]
        have e0 : sd.all id = false := by
          have hl := HR.out.len
          have hks : k < sd.length := by omega
          refine List.all_eq_false.2 ⟨sd.getD k true, ?_, by rw [HO.out]; simp⟩
          rw [List.getD_eq_getElem?_getD, List.getElem?_eq_getElem hks]
          exact List.getElem_mem hks
        rw [e0]
        rfl
      | some a0 =>
        have HO := hid ho
        have hbo : ∀ W : World, (binOp BinOp.eql 78 (.pointer none) (.pointer (some a0))).run Try.prog W = .ok (.bool false) W := fun W => by kernel_rfl
        clear ho
        go_wp2_with fail
        go_roundw
        case rel => exact ⟨k + 1, by omega, by go_num, hid (fun j hj => by by_cases e : j = k; (rw [e, HO.out]; rfl); exact HA.out j (by omega)), by trivial⟩
        case measure => simp [intOf]; omega
    · obtain rfl : k = N := by omega
      go_wp2_with fail
      go_ret
      refine ⟨-1, rfl, hid ?_, hid ⟨by omega, by omega⟩, rfl⟩
      have e0 : sd.all id = true := by
        rw [List.all_eq_true]
        intro z hz
        obtain ⟨j, hj, rfl⟩ := List.mem_iff_getElem.1 hz
        have := HA.out j (by rw [← HR.out.len]; exact hj)
        rw [List.getD_eq_getElem?_getD, List.getElem?_eq_getElem hj] at this
        exact this
      rw [e0]
      rfl

set_option maxHeartbeats 1600000 in
theorem impl_Contains {w : World} {r N : Nat} {sd : List Bool} (h : NRow w r N sd) (hN : N ≤ 300) :
    Calls Try.prog 86 #[.slice (some ⟨r, 0, none⟩) N N, .pointer none] w fun e w' => e = .returned (.bool (!sd.all id)) ∧ w' = w := by
  have HR := hid h
  clear h
  go_enter Try.func86, Try.ntmps86
  go_wp2_with fail
  refine (impl_Index HR.out hN).mono ?_
  rintro e w1 ⟨y, rfl, HY, HY2, e1⟩
  subst w1
  go_wp2_with fail
  go_ret
  exact ⟨by rw [← HY.out]; rfl, rfl⟩

/-- A row of N nil pointers. -/
def rowN (N : Nat) : Obj := .cells (List.replicate N (.pointer none)).toArray 78
theorem made1 (z : Value) (n : Nat) : madeCells #[z] n = (List.replicate n z).toArray := by
  apply Array.ext'
  rw [toList_madeCells_one]
theorem mkN (N : Nat) (hN : N ≤ 300) (W : World) : (Instr.makeSlice 84 (.int .i64 (N : Int)) (.int .i64 (N : Int))).run Try.prog W = .ok (.slice (some ⟨W.heap.size, 0, none⟩) N N) (W.alloc (rowN N)) := by
  obtain ⟨i0, hi, hz0, hz1, hz2⟩ := info_parts Try.infoPn
  have := run_make (P := Try.prog) W 84 78 i0 (.pointer none) Try.underlying84 hi hz0 .i64 .i64 (N : Int) (N : Int) (by omega) (by omega) (by rw [hz2]; omega) (by omega)
  rw [this, hz1, Nat.mul_one, Int.toNat_natCast]
  show Result.ok _ (W.alloc (.cells (madeCells #[.pointer none] N) _)) = _
  rw [made1]
  rfl
theorem NRow.new {w : World} {r : Nat} (N : Nat) (h : w.heap[r]? = some (rowN N)) : NRow w r N (List.replicate N false) :=
  ⟨List.replicate N none, by simp, by rw [h]; simp [rowN], by simp⟩

/-- What linkedOf tells of a right tree. -/
structure Linked (w w' : World) (ns : List Nd) (N : Nat) (root : Int) (q : Nat) : Prop where
  ge : w.heap.size ≤ q
  ex : ∃ r g, w'.heap[q]? = some (.cells #[.slice (some ⟨r, 0, none⟩) N N, .pointer (some ⟨g, 0, none⟩)] 90) ∧ Lk w w' ns w.heap.size w'.heap.size (N + 1) root g
def LinkedP (w w' : World) (ns : List Nd) (N : Nat) (root : Int) (e : Ending) : Prop :=
  (treeIs ns root = false → e = .returned (.tuple #[.pointer none, .bool false])) ∧ (treeIs ns root = true → ∃ q, e = .returned (.tuple #[.pointer (some ⟨q, 0, none⟩), .bool true]) ∧ Linked w w' ns N root q)
theorem LinkedP.no {w w' : World} {ns : List Nd} {N : Nat} {root : Int} {e : Ending} (h : treeIs ns root = false) (he : e = .returned (.tuple #[.pointer none, .bool false])) : LinkedP w w' ns N root e := ⟨fun _ => he, fun q => absurd (h.symm.trans q) (by simp)⟩

set_option maxHeartbeats 3200000 in
theorem impl_linkedOf {ad : Option Addr} {N : Nat} (cap : Nat) (root : Int) {ns : List Nd} {w : World} (hR : ReadsD w ad ns) (hns : ns.length = N) (hm : ∀ i j, ((ns.getD i nd0).es.getD j en0).Z.length ≤ 2097152) :
    Calls Try.prog 52 #[.agg #[.slice ad N cap, .int .i64 root]] w fun e w' => LinkedP w w' ns N root e ∧ Below w.heap.size w w' := by
  have hB := Below.alloc1 w (.cells #[.slice ad N cap, .int .i64 root] 26)
  have hR4 := heap_alloc_new w (.cells #[.slice ad N cap, .int .i64 root] 26)
  have hz := alloc_size w (.cells #[.slice ad N cap, .int .i64 root] 26)
  have k0 : (w.alloc (.cells #[.slice ad N cap, .int .i64 root] 26)).cell? ⟨w.heap.size, 0, none⟩ = some (.slice ad N cap) := by rw [cell_of_row _ _ _ _ _ _ hR4]; rfl
  have HT := hid (show treeIs ns root = (decide (1 ≤ ns.length ∧ ns.length ≤ 300) && (match lnk ns (ns.length + 1) (List.replicate ns.length false) root with
    | none => false
    | some sd => sd.all id && (lvs ns (ns.length + 1) root (hgt ns (ns.length + 1) root) && ino ns (ns.length + 1) root none none))) from rfl)
  rw [hns] at HT
  have HB := hid hB
  have HR4 := hid hR4
  have HZ := hid hz
  have HRD := hid hR
  have HM := hid hm
  have HNs := hid hns
  clear hB hR4 hz hR hns hm
  go_enter Try.func52, Try.ntmps52
  go_wp2_with fail
  generalize w.alloc (.cells #[.slice ad N cap, .int .i64 root] 26) = V at *
  obtain ⟨p4, hp4⟩ : ∃ p4, w.heap.size = p4 := ⟨_, rfl⟩
  have HP4 := hid hp4
  rw [hp4] at HR4 k0
  try simp only [hp4]
  clear hp4
  refine (impl_in11 N 1 300 V).mono ?_
  rintro e w1 ⟨rfl, e1⟩
  subst w1
  by_cases hin : 1 ≤ N ∧ N ≤ 300
  · have hd : decide ((1 : Int) ≤ (N : Int) ∧ (N : Int) ≤ 300) = true := decide_eq_true ⟨by omega, by omega⟩
    rw [hd]
    rw [decide_eq_true hin, Bool.true_and] at HT
    have hmk := mkN N hin.2
    have hz0 : ∀ o, (V.alloc o).heap.size = V.heap.size + 1 := fun o => alloc_size V o
    have hRR := two_rows11 V (rowN N) (.cells #[.slice (some ⟨V.heap.size, 0, none⟩) N N, .pointer none] 90)
    have hBB := two V (rowN N) (.cells #[.slice (some ⟨V.heap.size, 0, none⟩) N N, .pointer none] 90)
    have HRR := hid hRR
    have HBB := hid hBB
    have zV := HZ.out
    have z4 := HP4.out
    have c1 : ((V.alloc (rowN N)).alloc (.cells #[.slice (some ⟨V.heap.size, 0, none⟩) N N, .pointer none] 90)).cell? ⟨p4, 1, none⟩ = some (.int .i64 root) := by rw [cell_of_row _ _ _ _ _ _ ((hBB.block p4 (by omega)).trans HR4.out)]; rfl
    have c0 : ((V.alloc (rowN N)).alloc (.cells #[.slice (some ⟨V.heap.size, 0, none⟩) N N, .pointer none] 90)).cell? ⟨p4, 0, none⟩ = some (.slice ad N cap) := by rw [cell_of_row _ _ _ _ _ _ ((hBB.block p4 (by omega)).trans HR4.out)]; rfl
    have HC0 := hid c0
    clear hd hRR hBB zV z4
    go_wp2_with fail
    clear c0 c1
    generalize (V.alloc (rowN N)).alloc (.cells #[.slice (some ⟨V.heap.size, 0, none⟩) N N, .pointer none] 90) = W at *
    refine (impl_link cap root HNs.out HRD.out hin.2 (V.heap.size + 1) V.heap.size (by omega) HB.out.size (N + 1) (List.replicate N false) root _ (by rw [unseen_rep]; omega) (HB.out.trans (HBB.out.mono HB.out.size)) (by rw [cell_of_row _ _ _ _ _ _ HRR.out.2.1]; rfl) (NRow.new N HRR.out.1)).mono ?_
    rintro e w2 ⟨hp, kp⟩
    have HBw := hid (show Below w.heap.size w w2 from (HB.out.trans (HBB.out.mono HB.out.size)).trans (kp.below (by have := HB.out.size; have := HBB.out.size; omega) (fun k hk e => by have := HB.out.size; have : k = V.heap.size := e; omega)))
    have rq : w2.heap[V.heap.size + 1]? = some (.cells #[.slice (some ⟨V.heap.size, 0, none⟩) N N, .pointer none] 90) := (kp.block _ (by have := HRR.out.2.2; omega) (fun e => by have : V.heap.size + 1 = V.heap.size := e; omega)).trans HRR.out.2.1
    have q0 : w2.cell? ⟨V.heap.size + 1, 0, none⟩ = some (.slice (some ⟨V.heap.size, 0, none⟩) N N) := by rw [cell_of_row _ _ _ _ _ _ rq]; rfl
    have HRq := hid rq
    have HSz := hid (show w.heap.size ≤ V.heap.size ∧ V.heap.size + 2 = W.heap.size ∧ W.heap.size ≤ w2.heap.size by have := HB.out.size; have := HRR.out.2.2; have := kp.size; omega)
    clear rq
    cases hx : lnk ns (N + 1) (List.replicate N false) root with
    | none =>
      obtain rfl := hp.1 hx
      rw [hx] at HT
      clear hx hp kp q0
      go_wp2_with fail
      go_ret2
      exact ⟨LinkedP.no HT.out rfl, HBw.out⟩
    | some sd =>
      obtain ⟨g, rfl, hn2, hl2⟩ := hp.2 _ hx
      rw [hx] at HT
      have HN2 := hid hn2
      have HL2 := hid hl2
      clear hx hp kp hn2 hl2
      go_wp2_with fail
      refine (impl_Contains HN2.out hin.2).mono ?_
      rintro e w3 ⟨rfl, e1⟩
      subst w3
      cases hall : sd.all id with
      | false =>
        replace HT := hid (show treeIs ns root = false by rw [HT.out]; simp only [hall, Bool.false_and])
        clear hall q0
        go_wp2_with fail
        go_ret2
        exact ⟨LinkedP.no HT.out rfl, HBw.out⟩
      | true =>
        replace HT := hid (show treeIs ns root = (lvs ns (N + 1) root (hgt ns (N + 1) root) && ino ns (N + 1) root none none) by rw [HT.out]; simp only [hall, Bool.true_and])
        clear hall q0
        go_wp2_with fail
        refine (impl_height (by omega) HL2.out).mono ?_
        rintro e w3 ⟨rfl, e1⟩
        subst w3
        have HH := hid (And.intro (hgt_pos ns (N + 1) root) (hgt_le ns (N + 1) root))
        go_wp2_with fail
        refine (impl_hasLeavesAt (N + 1) root g (hgt ns (N + 1) root) (by have := HH.out; omega) (by have := HH.out; omega) HL2.out).mono ?_
        rintro e w3 ⟨rfl, e1⟩
        subst w3
        cases hlv : lvs ns (N + 1) root (hgt ns (N + 1) root) with
        | false =>
          rw [hlv, Bool.false_and] at HT
          clear hlv
          go_wp2_with fail
          go_ret2
          exact ⟨LinkedP.no HT.out rfl, HBw.out⟩
        | true =>
          rw [hlv, Bool.true_and] at HT
          clear hlv
          go_wp2_with fail
          refine (impl_isInOrder HM.out (N + 1) root g none none _ _ w2 W.heap.size w2.heap.size (Nat.le_refl _) HBw.out HL2.out rfl rfl).mono ?_
          rintro e w3 ⟨rfl, b3⟩
          cases hio : ino ns (N + 1) root none none with
          | false =>
            rw [hio] at HT
            replace HBw := hid (HBw.out.trans (b3.mono HBw.out.size))
            clear hio b3
            go_wp2_with fail
            go_ret2
            exact ⟨LinkedP.no HT.out rfl, HBw.out⟩
          | true =>
            rw [hio] at HT
            have rq3 : w3.heap[V.heap.size + 1]? = some (.cells #[.slice (some ⟨V.heap.size, 0, none⟩) N N, .pointer none] 90) := (b3.block _ (by have := HSz.out; omega)).trans HRq.out
            have q1 : w3.cell? ⟨V.heap.size + 1, 1, none⟩ = some (.pointer none) := by rw [cell_of_row _ _ _ _ _ _ rq3]; rfl
            have qf : w3.frozen? ⟨V.heap.size + 1, 1, none⟩ = false := frozen_of_row _ _ _ _ _ rq3
            have HFin := hid (show Linked w (w3.setCell ⟨V.heap.size + 1, 1, none⟩ (.pointer (some ⟨g, 0, none⟩))) ns N root (V.heap.size + 1) from by
              have hs := HSz.out
              have hb := b3.size
              refine ⟨by omega, V.heap.size, g, by rw [heap_setCell_same _ _ _ _ _ _ rq3]; rfl, ?_⟩
              refine Lk.mono (lo := W.heap.size) (hi := w2.heap.size) (by omega) (by rw [set_size]; exact hb) _ _ _ (Lk.agree (fun k k1 k2 => ?_) _ _ _ HL2.out)
              exact (heap_set_ne _ _ 1 k _ (by omega)).trans (b3.block k k2))
            replace HBw := hid ((HBw.out.trans (b3.mono HBw.out.size)).setCell (p := ⟨V.heap.size + 1, 1, none⟩) (by have := HSz.out; simp only; omega) (.pointer (some ⟨g, 0, none⟩)))
            clear hio b3 rq3
            go_wp2_with fail
            go_ret2
            exact ⟨⟨fun e => absurd (e.symm.trans HT.out) (by simp), fun _ => ⟨_, rfl, HFin.out⟩⟩, HBw.out⟩
  · have hd : decide ((1 : Int) ≤ (N : Int) ∧ (N : Int) ≤ 300) = false := decide_eq_false (fun q => hin ⟨by omega, by omega⟩)
    rw [hd]
    rw [decide_eq_false hin, Bool.false_and] at HT
    clear hd hin
    go_wp2_with fail
    go_ret2
    exact ⟨LinkedP.no HT.out rfl, HB.out⟩

set_option maxHeartbeats 1600000 in
theorem impl_TreeOk {ad : Option Addr} {N : Nat} (cap : Nat) (root : Int) {ns : List Nd} {w : World} (hR : ReadsD w ad ns) (hns : ns.length = N) (hm : ∀ i j, ((ns.getD i nd0).es.getD j en0).Z.length ≤ 2097152) :
    Calls Try.prog 18 #[.agg #[.slice ad N cap, .int .i64 root]] w fun e w' => e = .returned (.bool (treeOk ns root)) ∧ Below w.heap.size w w' := by
  rw [tree_same]
  have HB := hid (Below.alloc1 w (.cells #[.slice ad N cap, .int .i64 root] 26))
  have HR := hid (hR.below HB.out (Nat.le_refl _))
  have HM := hid hm
  have HNs := hid hns
  have hR4 := heap_alloc_new w (.cells #[.slice ad N cap, .int .i64 root] 26)
  have k0 : (w.alloc (.cells #[.slice ad N cap, .int .i64 root] 26)).cell? ⟨w.heap.size, 0, none⟩ = some (.slice ad N cap) := by rw [cell_of_row _ _ _ _ _ _ hR4]; rfl
  have k1 : (w.alloc (.cells #[.slice ad N cap, .int .i64 root] 26)).cell? ⟨w.heap.size, 1, none⟩ = some (.int .i64 root) := by rw [cell_of_row _ _ _ _ _ _ hR4]; rfl
  clear hR4 hR hm hns
  go_enter Try.func18, Try.ntmps18
  go_wp2_with fail
  generalize w.alloc (.cells #[.slice ad N cap, .int .i64 root] 26) = V at *
  refine (impl_linkedOf cap root HR.out HNs.out HM.out).mono ?_
  rintro e w1 ⟨hp, b⟩
  have HBw := hid (HB.out.trans (b.mono HB.out.size))
  clear b k0 k1
  cases ht : treeIs ns root with
  | false =>
    obtain rfl := hp.1 ht
    have HT := hid ht
    clear hp ht
    go_wp2_with fail
    go_ret
    exact ⟨by rw [HT.out]; rfl, HBw.out⟩
  | true =>
    obtain ⟨q, rfl, _⟩ := hp.2 ht
    have HT := hid ht
    clear hp ht
    go_wp2_with fail
    go_ret
    exact ⟨by rw [HT.out]; rfl, HBw.out⟩

def heightS (ns : List Nd) (root : Int) : Int := if treeOk ns root = true then (lookS ns root).deep else 0
set_option maxHeartbeats 1600000 in
theorem impl_TreeHeight {ad : Option Addr} {N : Nat} (cap : Nat) (root : Int) {ns : List Nd} {w : World} (hR : ReadsD w ad ns) (hns : ns.length = N) (hm : ∀ i j, ((ns.getD i nd0).es.getD j en0).Z.length ≤ 2097152) :
    Calls Try.prog 21 #[.agg #[.slice ad N cap, .int .i64 root]] w fun e w' => e = .returned (.int .i64 (heightS ns root)) ∧ Below w.heap.size w w' := by
  have HT := hid (tree_same ns root)
  have HTo := hid (fun h => (tree_told (ns := ns) (root := root) h).1)
  have HHe := hid (show heightS ns root = if treeOk ns root = true then (lookS ns root).deep else 0 from rfl)
  have HB := hid (Below.alloc1 w (.cells #[.slice ad N cap, .int .i64 root] 26))
  have HR := hid (hR.below HB.out (Nat.le_refl _))
  have HM := hid hm
  have HNs := hid hns
  have hR4 := heap_alloc_new w (.cells #[.slice ad N cap, .int .i64 root] 26)
  have k0 : (w.alloc (.cells #[.slice ad N cap, .int .i64 root] 26)).cell? ⟨w.heap.size, 0, none⟩ = some (.slice ad N cap) := by rw [cell_of_row _ _ _ _ _ _ hR4]; rfl
  have k1 : (w.alloc (.cells #[.slice ad N cap, .int .i64 root] 26)).cell? ⟨w.heap.size, 1, none⟩ = some (.int .i64 root) := by rw [cell_of_row _ _ _ _ _ _ hR4]; rfl
  clear hR4 hR hm hns
  go_enter Try.func21, Try.ntmps21
  go_wp2_with fail
  generalize w.alloc (.cells #[.slice ad N cap, .int .i64 root] 26) = V at *
  refine (impl_linkedOf cap root HR.out HNs.out HM.out).mono ?_
  rintro e w1 ⟨hp, b⟩
  have HBw := hid (HB.out.trans (b.mono HB.out.size))
  clear b k0 k1
  cases ht : treeIs ns root with
  | false =>
    obtain rfl := hp.1 ht
    have HE := hid (show heightS ns root = 0 by rw [HHe.out, HT.out, ht]; rfl)
    clear hp ht
    go_wp2_with fail
    go_ret
    exact ⟨by rw [HE.out]; rfl, HBw.out⟩
  | true =>
    obtain ⟨q, rfl, hl⟩ := hp.2 ht
    obtain ⟨r, g, hq, hk⟩ := hl.ex
    have hN3 : N ≤ 300 := by
      unfold treeIs at ht
      rw [Bool.and_eq_true] at ht
      have := of_decide_eq_true ht.1
      have := HNs.out
      omega
    have HE := hid (show heightS ns root = hgt ns (N + 1) root by rw [HHe.out, HT.out, ht, if_pos rfl, HTo.out (by rw [HT.out]; exact ht), HNs.out])
    have q1 : w1.cell? ⟨q, 1, none⟩ = some (.pointer (some ⟨g, 0, none⟩)) := by rw [cell_of_row _ _ _ _ _ _ hq]; rfl
    have HK := hid hk
    clear hp ht hl hq hk
    go_wp2_with fail
    refine (impl_height (by omega) HK.out).mono ?_
    rintro e w2 ⟨rfl, e1⟩
    subst w2
    go_wp2_with fail
    go_ret
    exact ⟨by rw [HE.out]; rfl, HBw.out⟩
end Go.Proofs.Ytnjofaiekofamaa
