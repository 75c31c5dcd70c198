/- A control, plain; the contracts of the specification's l17fill and ControlBytes. Conditions: none. -/
import Derived.Test.YtplbejipkaionaaPsr
import Derived.Test.YtplbejipkaionaaSa8
import Derived.Test.YtplbejipkaionaaPut
import Derived.Test.YtplbejipkaionaaFrm
import Derived.Test.YtplbejipkaionaaDk
import Derived.Test.YtplbejipkaionaaAl
namespace Go.Proofs.Ytplbejipkaionaa
open Go.RowKit
set_option maxRecDepth 100000

def okC (sq ar ls nx pg : Int) : Bool := decide ((1 ≤ sq ∧ sq ≤ 1000000) ∧ (0 ≤ ar ∧ ar ≤ 1) ∧ (1 ≤ ls ∧ ls ≤ 1000000) ∧ (1 ≤ nx ∧ nx ≤ 401) ∧ (0 ≤ pg ∧ pg ≤ 16))
def bodyC (sq ar ls nx pg : Int) : List Int := putL sq 4 ++ [ar] ++ putL ls 4 ++ putL nx 4 ++ [pg]
def fillC (zs : List Int) : List Int := zs ++ List.replicate (64 - zs.length) 0
/-- What ControlBytes answers. -/
def ctlL (sq ar ls nx pg : Int) : List Int := if okC sq ar ls nx pg = true then fillC (frameOf 9 (bodyC sq ar ls nx pg)) else []
theorem own_pos17 {w : World} {base n : Nat} {v : Value} {zs : List Int} (o : w.ownsRow base 5 1 v n (bys zs)) (hb : ∀ i, 0 ≤ zs.getD i 0 ∧ zs.getD i 0 ≤ 255) (hn : 0 < n) : ∃ g c, v = .slice (some ⟨g, 0, none⟩) n c ∧ Reads w (some ⟨g, 0, none⟩) n zs := by
  obtain ⟨ad, cap, rfl, r, pl⟩ := Reads.own o hb
  rcases pl with rfl | ⟨g, rfl, _⟩
  · rcases r.cells with h0 | ⟨b, off, e, _⟩
    · omega
    · cases e
  · exact ⟨g, cap, rfl, r⟩
theorem fill_set (zs : List Int) (k : Nat) (h : k < zs.length) (h64 : zs.length ≤ 64) : (bys (zs.take k ++ List.replicate (64 - k) 0)).set k (.int .u8 (zs.getD k 0)) = bys (zs.take (k + 1) ++ List.replicate (64 - (k + 1)) 0) := by
  have hk : (zs.take k).length = k := by rw [List.length_take]; omega
  unfold bys
  rw [← List.map_set (f := fun x => Value.int .u8 x), List.set_append_right _ _ (by omega), hk, Nat.sub_self, show 64 - k = (64 - (k + 1)) + 1 by omega, List.replicate_succ, List.set_cons_zero, List.take_succ_eq_append_getElem h, List.append_assoc]
  simp [List.getD, h]
set_option maxHeartbeats 3200000 in
theorem spec_l17fill {b off n : Nat} (cap : Nat) {zs : List Int} {w : World} (h : Reads w (some ⟨b, off, none⟩) n zs) (hn : n ≤ 64) (hn0 : 0 < n) :
    Calls Try.prog 29 #[.slice (some ⟨b, off, none⟩) n cap] w fun e w' => ∃ g, e = .returned (.slice (some ⟨g, 0, none⟩) 64 64) ∧ w'.ownsRow w.heap.size 5 1 (.slice (some ⟨g, 0, none⟩) 64 64) 64 (bys (fillC zs)) ∧ Below w.heap.size w w' := by
  obtain ⟨i0, hi, hz0, hz1, hz2⟩ := info_parts Try.info5
  have hl := h.len
  have HR := hid h
  have HLe := hid hl
  clear h hl
  go_enter Try.func29, Try.ntmps29
  go_wp2_with (at_make; refine wpList_make_full _ rfl _ _ 22 rfl w.heap.size 5 i0 (.int .u8 0) 1 Try.underlying22 hi hz0 hz1 _ _ _ _ 64 rfl rfl (by omega) (by omega) ?b2 ?b3 (Nat.le_refl _) ?_)
  case b2 => rw [hz2]; omega
  case b3 => unfold maxLen; omega
  intro w0 hown0 hgrow0
  obtain ⟨g, hg⟩ : ∃ g, w.heap.size = g := ⟨_, rfl⟩
  have HG := hid hg
  have HO0 := hid (show w0.ownsRow g 5 1 (.slice (some ⟨g, 0, none⟩) 64 64) 64 (bys (zs.take 0 ++ List.replicate (64 - 0) 0)) by
    rw [← hg]
    rw [toList_madeCells_one] at hown0
    simpa [bys] using hown0)
  have HB0 := hid (show Below g w w0 by rw [← hg]; exact (Below.refl w.heap.size w).grown hgrow0 (Nat.le_refl _) (fun k h => by cases h))
  clear hown0 hgrow0
  try simp only [hg]
  go_wp2_with fail
  go_loopw [4] (fun s wr => ∃ k : Nat, k ≤ n ∧ s = .int .i64 k ∧ Hid (wr.ownsRow g 5 1 (.slice (some ⟨g, 0, none⟩) 64 64) 64 (bys (zs.take k ++ List.replicate (64 - k) 0))) ∧ Hid (Below g w wr)) (fun s _ => n - (intOf s).toNat)
  case atStart => exact ⟨0, Nat.zero_le _, rfl, HO0, HB0⟩
  case round =>
    clear HO0 HB0
    obtain ⟨k, hk, rfl, HO, HW⟩ := hrel
    by_cases hlt : k < n
    · have hlt' : (k : Int) < (n : Int) := by omega
      have h64 : (k : Int) < 64 := by omega
      have hk0 : (0 : Int) ≤ (k : Int) := by omega
      have hcx : wr.cell? ⟨b, off + k, none⟩ = some (.int .u8 (zs.getD k 0)) := by
        have hr := HR.out.below HW.out (by rw [hg]; exact Nat.le_refl _)
        rcases hr.cells with h0 | ⟨b', off', e, hc⟩
        · omega
        · cases e; exact hc k hlt
      have hcy : ∃ v, wr.cell? ⟨g, k, none⟩ = some v := by
        rw [HO.out.cellAt k (by omega)]
        exact ⟨_, List.getElem?_eq_getElem (by rw [bys_length, List.length_append, List.length_take, List.length_replicate]; have := HLe.out; omega)⟩
      obtain ⟨v, hcy⟩ := hcy
      have hfr : wr.frozen? ⟨g, k, none⟩ = false := HO.out.frozenAt k
      have R := HO.out.stored k (.int .u8 (zs.getD k 0))
      rw [fill_set zs k (by have := HLe.out; omega) (by have := HLe.out; omega)] at R
      have R1 := hid R
      have B1 := hid (HW.out.grown R.2 (by rw [← hg]; exact HW.out.size) (fun b e => by cases e; exact Nat.le_refl _))
      generalize zs.getD k 0 = c at hcx R1 B1
      clear R HO
      go_wp2_with fail
      go_roundw
      case rel => exact ⟨k + 1, by omega, by go_num, hid R1.out.1, B1⟩
      case measure => simp [intOf]; omega
    · have hlt' : ¬ (k : Int) < (n : Int) := by omega
      obtain rfl : k = n := by omega
      have HE := hid (show wr.ownsRow g 5 1 (.slice (some ⟨g, 0, none⟩) 64 64) 64 (bys (fillC zs)) by
        have := HO.out
        rw [List.take_of_length_le (by have := HLe.out; omega)] at this
        unfold fillC
        rw [HLe.out]; exact this)
      go_wp2_with fail
      go_ret
      exact ⟨g, rfl, HE.out, HW.out⟩

theorem bodyC_bd {sq ar ls nx pg : Int} (h : okC sq ar ls nx pg = true) : (bodyC sq ar ls nx pg).length = 14 ∧ ∀ i, 0 ≤ (bodyC sq ar ls nx pg).getD i 0 ∧ (bodyC sq ar ls nx pg).getD i 0 ≤ 255 := by
  have k := of_decide_eq_true h
  have l1 := putL_four sq (by omega) (by omega)
  have l2 := putL_four ls (by omega) (by omega)
  have l3 := putL_four nx (by omega) (by omega)
  have app : ∀ {A B : List Int}, (∀ i, 0 ≤ A.getD i 0 ∧ A.getD i 0 ≤ 255) → (∀ i, 0 ≤ B.getD i 0 ∧ B.getD i 0 ≤ 255) → ∀ i, 0 ≤ (A ++ B).getD i 0 ∧ (A ++ B).getD i 0 ≤ 255 := fun {A B} ha hb i => by
    by_cases hi : i < A.length
    · rw [show (A ++ B).getD i 0 = A.getD i 0 by simp [List.getD, List.getElem?_append_left hi]]; exact ha i
    · rw [show (A ++ B).getD i 0 = B.getD (i - A.length) 0 by simp [List.getD, List.getElem?_append_right (Nat.le_of_not_lt hi)]]; exact hb _
  have one : ∀ x : Int, 0 ≤ x → x ≤ 255 → ∀ i, 0 ≤ ([x] : List Int).getD i 0 ∧ ([x] : List Int).getD i 0 ≤ 255 := fun x h0 h1 i => by
    rcases i with _ | i
    · exact ⟨h0, h1⟩
    · simp
  unfold bodyC
  refine ⟨by simp [l1, l2, l3], ?_⟩
  exact app (app (app (app (putL_bd _ _) (one ar (by omega) (by omega))) (putL_bd _ _)) (putL_bd _ _)) (one pg (by omega) (by omega))
theorem ctl_yes {sq ar ls nx pg : Int} (h : okC sq ar ls nx pg = true) : ctlL sq ar ls nx pg = fillC (frameL 9 (bodyC sq ar ls nx pg)) ∧ (frameL 9 (bodyC sq ar ls nx pg)).length = 21 ∧ (∀ i, 0 ≤ (frameL 9 (bodyC sq ar ls nx pg)).getD i 0 ∧ (frameL 9 (bodyC sq ar ls nx pg)).getD i 0 ≤ 255) := by
  have b := bodyC_bd h
  refine ⟨by unfold ctlL; rw [if_pos h, frameOf_yes _ _ ⟨by omega, by omega, by omega⟩], ?_, frameL_bd _ _ (by omega) (by omega) b.2⟩
  rw [frameL_length _ _ (by omega) (by omega) (by omega) b.2, b.1]
theorem own_ne17 {w : World} {base n : Nat} {v : Value} {xs : List Value} (o : w.ownsRow base 5 1 v n xs) {g : Nat} {cs : Array Value} {t : TypeId} {fz : Nat × Nat} (h : w.heap[g]? = some (.cells cs t fz)) (ht : t ≠ 5) : v.ownBlock ≠ some g := fun e => by
  rcases o.2 with ⟨q, _⟩ | ⟨g', cp, cu, q, _, hh, _⟩
  · rw [q] at e; cases e
  · rw [q] at e
    have h2 : g' = g := by simpa [Value.ownBlock] using e
    subst h2
    rw [h] at hh
    exact ht (by cases hh; rfl)
theorem bys_app17 (a b : List Int) : bys (a ++ b) = bys a ++ bys b := by simp [bys]

set_option maxHeartbeats 6400000 in
theorem spec_ControlBytes (sq ar ls nx pg : Int) (w : World) :
    Calls Try.prog 9 #[.agg #[.int .i64 sq, .int .i64 ar, .int .i64 ls, .int .i64 nx, .int .i64 pg]] w fun e w' => ∃ v, e = .returned v ∧ w'.ownsRow w.heap.size 5 1 v (ctlL sq ar ls nx pg).length (bys (ctlL sq ar ls nx pg)) ∧ Below w.heap.size w w' := by
  obtain ⟨i0, hi, hz0, hz1, hz2⟩ := info_parts Try.info5
  have HB := hid (Below.alloc1 w (.cells #[.int .i64 sq, .int .i64 ar, .int .i64 ls, .int .i64 nx, .int .i64 pg] 25))
  have HR := hid (heap_alloc_new w (.cells #[.int .i64 sq, .int .i64 ar, .int .i64 ls, .int .i64 nx, .int .i64 pg] 25))
  have HNo := hid (fun (q : okC sq ar ls nx pg = false) => show ctlL sq ar ls nx pg = [] by unfold ctlL; rw [q]; rfl)
  go_enter Try.func9, Try.ntmps9
  go_wp2_with fail
  refine (spec_in8 sq 1 1000000 _).mono ?_
  rintro e w1 ⟨rfl, e1⟩
  subst w1
  by_cases hsq : 1 ≤ sq ∧ sq ≤ 1000000
  case neg =>
    rw [decide_eq_false hsq]
    have HE := hid (HNo.out (decide_eq_false (fun q => hsq q.1)))
    go_wp2_with fail
    go_ret
    exact ⟨_, rfl, by rw [HE.out]; exact World.ownsRow_nil _ _ _ _, HB.out⟩
  rw [decide_eq_true hsq]
  go_wp2_with fail
  refine (spec_in8 ar 0 1 _).mono ?_
  rintro e w1 ⟨rfl, e1⟩
  subst w1
  by_cases har : 0 ≤ ar ∧ ar ≤ 1
  case neg =>
    rw [decide_eq_false har]
    have HE := hid (HNo.out (decide_eq_false (fun q => har q.2.1)))
    go_wp2_with fail
    go_ret
    exact ⟨_, rfl, by rw [HE.out]; exact World.ownsRow_nil _ _ _ _, HB.out⟩
  rw [decide_eq_true har]
  go_wp2_with fail
  refine (spec_in8 ls 1 1000000 _).mono ?_
  rintro e w1 ⟨rfl, e1⟩
  subst w1
  by_cases hls : 1 ≤ ls ∧ ls ≤ 1000000
  case neg =>
    rw [decide_eq_false hls]
    have HE := hid (HNo.out (decide_eq_false (fun q => hls q.2.2.1)))
    go_wp2_with fail
    go_ret
    exact ⟨_, rfl, by rw [HE.out]; exact World.ownsRow_nil _ _ _ _, HB.out⟩
  rw [decide_eq_true hls]
  go_wp2_with fail
  refine (spec_in8 nx 1 401 _).mono ?_
  rintro e w1 ⟨rfl, e1⟩
  subst w1
  by_cases hnx : 1 ≤ nx ∧ nx ≤ 401
  case neg =>
    rw [decide_eq_false hnx]
    have HE := hid (HNo.out (decide_eq_false (fun q => hnx q.2.2.2.1)))
    go_wp2_with fail
    go_ret
    exact ⟨_, rfl, by rw [HE.out]; exact World.ownsRow_nil _ _ _ _, HB.out⟩
  rw [decide_eq_true hnx]
  go_wp2_with fail
  refine (spec_in8 pg 0 16 _).mono ?_
  rintro e w1 ⟨rfl, e1⟩
  subst w1
  by_cases hpg : 0 ≤ pg ∧ pg ≤ 16
  case neg =>
    rw [decide_eq_false hpg]
    have HE := hid (HNo.out (decide_eq_false (fun q => hpg q.2.2.2.2)))
    go_wp2_with fail
    go_ret
    exact ⟨_, rfl, by rw [HE.out]; exact World.ownsRow_nil _ _ _ _, HB.out⟩
  rw [decide_eq_true hpg]
  have HOk := hid (show okC sq ar ls nx pg = true from decide_eq_true ⟨hsq, har, hls, hnx, hpg⟩)
  have q1 := putL_four sq (by omega) (by omega)
  have q2 := putL_four ls (by omega) (by omega)
  have q3 := putL_four nx (by omega) (by omega)
  have Q1 := hid q1
  have Q2 := hid q2
  have Q3 := hid q3
  clear q1 q2 q3 HNo
  have war : IntKind.u8.wrap ar = ar := by simp [IntKind.wrap, IntKind.bits, IntKind.signed]; omega
  have wpg : IntKind.u8.wrap pg = pg := by simp [IntKind.wrap, IntKind.bits, IntKind.signed]; omega
  go_wp2_with fail
  refine (spec_PutNum sq 4 _ (by omega)).mono ?_
  rintro e w2 ⟨v, rfl, o, b⟩
  rw [Q1.out] at o
  obtain ⟨g1, c1, rfl, -⟩ := own_pos17 o (putL_bd _ _) (by omega)
  have O1 := hid (owns_lower o (by have := HB.out.size; omega : w.heap.size ≤ _))
  replace HR := hid ((b.block w.heap.size (by have := (Array.getElem?_eq_some_iff.1 HR.out).1; omega)).trans HR.out)
  replace HB := hid (HB.out.trans (b.mono HB.out.size))
  clear o b
  obtain ⟨A1, hA1⟩ : ∃ A, putL sq 4 = A := ⟨_, rfl⟩
  have HA1 := hid hA1
  rw [hA1] at O1
  clear hA1
  have k1 : w2.cell? ⟨w.heap.size, 1, none⟩ = some (.int .i64 ar) := by rw [cell_of_row _ _ _ _ _ _ HR.out]; rfl
  have bA := Below.alloc1 w2 (.cells #[.int .u8 ar] 5)
  have HA := hid (heap_alloc_new w2 (.cells #[.int .u8 ar] 5))
  have OA := hid (owns_below bA (Nat.le_refl _) O1.out)
  have BA := hid (HB.out.trans (bA.mono HB.out.size))
  have RA := hid ((alloc_old w2 (.cells #[.int .u8 ar] 5) w.heap.size (Array.getElem?_eq_some_iff.1 HR.out).1).trans HR.out)
  clear bA HB HR
  go_wp2_with (at_builtin; refine wpList_append_row rfl _ _ 22 rfl w.heap.size 5 i0 (.int .u8 0) 1 1 Try.underlying22 hi hz0 hz1 hz2 rfl (by decide) _ 4 _ rfl OA.out (some ⟨w2.heap.size, 0, none⟩) 1 1 [.int .u8 ar] rfl rfl (.inr ⟨_, rfl, World.news_of_block HA.out⟩) (fun e => by cases e) (by simp [Value.oneCell']) (by unfold maxLen; omega) (by omega) (by first | exact BA.out.size | (have := BA.out.size; have := alloc_size w2 (.cells #[.int .u8 ar] 5); omega)) ?_)
  intro a1 d1 y1 o hg
  have O2 := hid (show y1.ownsRow w.heap.size 5 1 (.slice a1 5 d1) 5 (bys (A1 ++ [ar])) by rw [bys_app17]; exact o)
  have HB := hid (BA.out.grown hg BA.out.size (fun r e => (OA.out.lt r e).1))
  have HR := hid ((hg.block w.heap.size (by have := (Array.getElem?_eq_some_iff.1 RA.out).1; omega) (fun e => own_ne17 OA.out RA.out (by decide) e.symm)).trans RA.out)
  clear o hg OA BA RA HA k1 O1
  obtain ⟨A2, hA2⟩ : ∃ A, A1 ++ [ar] = A := ⟨_, rfl⟩
  have HA2 := hid hA2
  rw [hA2] at O2
  clear hA2
  have k2 : y1.cell? ⟨w.heap.size, 2, none⟩ = some (.int .i64 ls) := by rw [cell_of_row _ _ _ _ _ _ HR.out]; rfl
  go_wp2_with fail
  clear k2
  refine (spec_PutNum ls 4 _ (by omega)).mono ?_
  rintro e x2 ⟨v, rfl, o, b⟩
  rw [Q2.out] at o
  obtain ⟨p2, e2, rfl, r⟩ := own_pos17 o (putL_bd _ _) (by omega)
  have RP := hid r
  replace O2 := hid (owns_below b (Nat.le_refl _) O2.out)
  replace HR := hid ((b.block w.heap.size (by have := (Array.getElem?_eq_some_iff.1 HR.out).1; omega)).trans HR.out)
  replace HB := hid (HB.out.trans (b.mono HB.out.size))
  clear o b r
  go_wp2_with (at_builtin; refine wpList_append_row rfl _ _ 22 rfl w.heap.size 5 i0 (.int .u8 0) 1 1 Try.underlying22 hi hz0 hz1 hz2 rfl (by decide) _ 5 _ rfl O2.out (some ⟨p2, 0, none⟩) 4 e2 (bys (putL ls 4)) rfl (by rw [bys_length, Q2.out]) (.inr ⟨_, rfl, RP.out.news⟩) (fun e => by cases e) (bys_one _) (by unfold maxLen; omega) (by omega) HB.out.size ?_)
  intro a2 d2 y2 o hg
  have O3 := hid (show y2.ownsRow w.heap.size 5 1 (.slice a2 9 d2) 9 (bys (A2 ++ putL ls 4)) by rw [bys_app17]; exact o)
  replace HB := hid (HB.out.grown hg HB.out.size (fun r e => (O2.out.lt r e).1))
  replace HR := hid ((hg.block w.heap.size (by have := (Array.getElem?_eq_some_iff.1 HR.out).1; omega) (fun e => own_ne17 O2.out HR.out (by decide) e.symm)).trans HR.out)
  clear o hg RP O2
  obtain ⟨A3, hA3⟩ : ∃ A, A2 ++ putL ls 4 = A := ⟨_, rfl⟩
  have HA3 := hid hA3
  rw [hA3] at O3
  clear hA3
  have k3 : y2.cell? ⟨w.heap.size, 3, none⟩ = some (.int .i64 nx) := by rw [cell_of_row _ _ _ _ _ _ HR.out]; rfl
  go_wp2_with fail
  clear k3
  refine (spec_PutNum nx 4 _ (by omega)).mono ?_
  rintro e x3 ⟨v, rfl, o, b⟩
  rw [Q3.out] at o
  obtain ⟨p3, e3, rfl, r⟩ := own_pos17 o (putL_bd _ _) (by omega)
  have RP := hid r
  replace O3 := hid (owns_below b (Nat.le_refl _) O3.out)
  replace HR := hid ((b.block w.heap.size (by have := (Array.getElem?_eq_some_iff.1 HR.out).1; omega)).trans HR.out)
  replace HB := hid (HB.out.trans (b.mono HB.out.size))
  clear o b r
  go_wp2_with (at_builtin; refine wpList_append_row rfl _ _ 22 rfl w.heap.size 5 i0 (.int .u8 0) 1 1 Try.underlying22 hi hz0 hz1 hz2 rfl (by decide) _ 9 _ rfl O3.out (some ⟨p3, 0, none⟩) 4 e3 (bys (putL nx 4)) rfl (by rw [bys_length, Q3.out]) (.inr ⟨_, rfl, RP.out.news⟩) (fun e => by cases e) (bys_one _) (by unfold maxLen; omega) (by omega) HB.out.size ?_)
  intro a3 d3 y3 o hg
  have O4 := hid (show y3.ownsRow w.heap.size 5 1 (.slice a3 13 d3) 13 (bys (A3 ++ putL nx 4)) by rw [bys_app17]; exact o)
  replace HB := hid (HB.out.grown hg HB.out.size (fun r e => (O3.out.lt r e).1))
  replace HR := hid ((hg.block w.heap.size (by have := (Array.getElem?_eq_some_iff.1 HR.out).1; omega) (fun e => own_ne17 O3.out HR.out (by decide) e.symm)).trans HR.out)
  clear o hg RP O3
  obtain ⟨A4, hA4⟩ : ∃ A, A3 ++ putL nx 4 = A := ⟨_, rfl⟩
  have HA4 := hid hA4
  rw [hA4] at O4
  clear hA4
  have k4 : y3.cell? ⟨w.heap.size, 4, none⟩ = some (.int .i64 pg) := by rw [cell_of_row _ _ _ _ _ _ HR.out]; rfl
  have bA := Below.alloc1 y3 (.cells #[.int .u8 pg] 5)
  have HA := hid (heap_alloc_new y3 (.cells #[.int .u8 pg] 5))
  have OA := hid (owns_below bA (Nat.le_refl _) O4.out)
  have BA := hid (HB.out.trans (bA.mono HB.out.size))
  have RA := hid ((alloc_old y3 (.cells #[.int .u8 pg] 5) w.heap.size (Array.getElem?_eq_some_iff.1 HR.out).1).trans HR.out)
  clear bA HB HR
  go_wp2_with (at_builtin; refine wpList_append_row rfl _ _ 22 rfl w.heap.size 5 i0 (.int .u8 0) 1 1 Try.underlying22 hi hz0 hz1 hz2 rfl (by decide) _ 13 _ rfl OA.out (some ⟨y3.heap.size, 0, none⟩) 1 1 [.int .u8 pg] rfl rfl (.inr ⟨_, rfl, World.news_of_block HA.out⟩) (fun e => by cases e) (by simp [Value.oneCell']) (by unfold maxLen; omega) (by omega) (by first | exact BA.out.size | (have := BA.out.size; have := alloc_size y3 (.cells #[.int .u8 pg] 5); omega)) ?_)
  intro a4 d4 y4 o hg
  have O5 := hid (show y4.ownsRow w.heap.size 5 1 (.slice a4 14 d4) 14 (bys (A4 ++ [pg])) by rw [bys_app17]; exact o)
  have HB := hid (BA.out.grown hg BA.out.size (fun r e => (OA.out.lt r e).1))
  have HR := hid ((hg.block w.heap.size (by have := (Array.getElem?_eq_some_iff.1 RA.out).1; omega) (fun e => own_ne17 OA.out RA.out (by decide) e.symm)).trans RA.out)
  clear o hg OA BA RA HA k4 O4
  obtain ⟨A5, hA5⟩ : ∃ A, A4 ++ [pg] = A := ⟨_, rfl⟩
  have HA5 := hid hA5
  rw [hA5] at O5
  clear hA5
  have HBC := hid (show bodyC sq ar ls nx pg = A5 by rw [← HA5.out, ← HA4.out, ← HA3.out, ← HA2.out, ← HA1.out]; rfl)
  obtain ⟨gb, cb, eb, rb⟩ := own_pos17 O5.out (by rw [← HBC.out]; exact (bodyC_bd HOk.out).2) (by omega)
  obtain ⟨rfl, -, rfl⟩ := Value.slice.inj eb
  have RB := hid (show Reads y4 (some ⟨gb, 0, none⟩) 14 (bodyC sq ar ls nx pg) by rw [HBC.out]; exact rb)
  clear eb rb
  go_wp2_with fail
  refine (spec_Frame_yes d4 RB.out (by omega) 9 (by omega) (by omega)).mono ?_
  rintro e z1 ⟨v, rfl, o, b⟩
  have HC := hid (ctl_yes HOk.out)
  rw [HC.out.2.1] at o
  obtain ⟨gf, cf, rfl, rf⟩ := own_pos17 o HC.out.2.2 (by omega)
  have RF := hid rf
  replace HB := hid (HB.out.trans (b.mono HB.out.size))
  clear o b rf
  go_wp2_with fail
  refine (spec_l17fill cf RF.out (by omega) (by omega)).mono ?_
  rintro e z2 ⟨gg, rfl, o, b⟩
  have OE := hid (show z2.ownsRow w.heap.size 5 1 (.slice (some ⟨gg, 0, none⟩) 64 64) (ctlL sq ar ls nx pg).length (bys (ctlL sq ar ls nx pg)) by
    rw [HC.out.1]
    rw [show (fillC (frameL 9 (bodyC sq ar ls nx pg))).length = 64 by unfold fillC; rw [List.length_append, List.length_replicate, HC.out.2.1]]
    exact owns_lower o HB.out.size)
  replace HB := hid (HB.out.trans (b.mono HB.out.size))
  clear o b
  go_wp2_with fail
  go_ret
  exact ⟨_, rfl, OE.out, HB.out⟩
end Go.Proofs.Ytplbejipkaionaa
