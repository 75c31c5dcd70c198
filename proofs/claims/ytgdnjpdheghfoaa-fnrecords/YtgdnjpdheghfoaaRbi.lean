/- The contract of the program's RecordBytes. Conditions: a nil list has no room. -/
import Derived.Test.YtgdnjpdheghfoaaRby
import Derived.Test.YtgdnjpdheghfoaaJo
import Derived.Test.YtgdnjpdheghfoaaRk
namespace Go.Proofs.Ytgdnjpdheghfoaa
open Go.RowKit
set_option maxRecDepth 100000

theorem Row.of {w : World} {a : Option Addr} {n c : Nat} {zs : List Int} (h : Reads w a n zs) (hc : a = none → c = 0) (hm : n ≤ maxLen) : Row w (.slice a n c) zs := ⟨a, c, by rw [h.len], by rw [h.len]; exact h, hc, by rw [h.len]; exact hm⟩
theorem rows5 {w : World} {g n cap : Nat} {p1 p2 p3 p4 n1 n2 n3 n4 : Nat} {ad : Option Addr} {B1 B2 B3 B4 zs : List Int} {t : TypeId} (hg : w.heap[g]? = some (.cells #[.slice (some ⟨p1, 0, none⟩) 4 n1, .slice (some ⟨p2, 0, none⟩) 4 n2, .slice (some ⟨p3, 0, none⟩) 2 n3, .slice (some ⟨p4, 0, none⟩) 2 n4, .slice ad n cap] t (0, 0)))
    (h1 : Reads w (some ⟨p1, 0, none⟩) 4 B1) (h2 : Reads w (some ⟨p2, 0, none⟩) 4 B2) (h3 : Reads w (some ⟨p3, 0, none⟩) 2 B3) (h4 : Reads w (some ⟨p4, 0, none⟩) 2 B4) (h5 : Reads w ad n zs) (hc : ad = none → cap = 0) (hm : n ≤ maxLen) :
    ReadsS w (some ⟨g, 0, none⟩) [B1, B2, B3, B4, zs] := by
  have hm4 : 4 ≤ maxLen := by unfold maxLen; omega
  refine ⟨.inr ⟨g, 0, rfl, fun i hi => ?_⟩⟩
  rw [Nat.zero_add]
  match i, hi with
  | 0, _ => exact ⟨.slice (some ⟨p1, 0, none⟩) 4 n1, by rw [cell_of_row _ _ _ _ _ _ hg]; rfl, show Row w _ B1 from Row.of h1 (fun h => by cases h) hm4⟩
  | 1, _ => exact ⟨.slice (some ⟨p2, 0, none⟩) 4 n2, by rw [cell_of_row _ _ _ _ _ _ hg]; rfl, show Row w _ B2 from Row.of h2 (fun h => by cases h) hm4⟩
  | 2, _ => exact ⟨.slice (some ⟨p3, 0, none⟩) 2 n3, by rw [cell_of_row _ _ _ _ _ _ hg]; rfl, show Row w _ B3 from Row.of h3 (fun h => by cases h) (by omega)⟩
  | 3, _ => exact ⟨.slice (some ⟨p4, 0, none⟩) 2 n4, by rw [cell_of_row _ _ _ _ _ _ hg]; rfl, show Row w _ B4 from Row.of h4 (fun h => by cases h) (by omega)⟩
  | 4, _ => exact ⟨.slice ad n cap, by rw [cell_of_row _ _ _ _ _ _ hg]; rfl, show Row w _ zs from Row.of h5 hc hm⟩

set_option maxHeartbeats 12800000 in
theorem impl_RecordBytes (K L X P S : Int) {ad : Option Addr} {n : Nat} (cap : Nat) {zs : List Int} {w : World} (h : Reads w ad n zs) (hc : ad = none → cap = 0) : Calls Try.prog 27 #[.agg #[.int .i64 K, .int .i64 L, .int .i64 X, .int .i64 P, .int .i64 S, .slice ad n cap]] w fun e w' => ∃ v, e = .returned v ∧ w'.ownsRow w.heap.size 5 1 v (bytesR ⟨K, L, X, P, S, zs⟩).length (bys (bytesR ⟨K, L, X, P, S, zs⟩)) ∧ Below w.heap.size w w' := by
  have HA := hid (Below.alloc1 w (.cells #[.int .i64 K, .int .i64 L, .int .i64 X, .int .i64 P, .int .i64 S, .slice ad n cap] 36))
  have HX := hid (BoxR.new w K L X P S ad n cap 36)
  have HQ := hid (h.below HA.out (Nat.le_refl _))
  have HQ0 := hid h
  have HZ := hid (show w.heap.size + 1 ≤ (w.alloc (.cells #[.int .i64 K, .int .i64 L, .int .i64 X, .int .i64 P, .int .i64 S, .slice ad n cap] 36)).heap.size from Nat.le_of_eq (alloc_size w _).symm)
  have hln := h.len
  have Hbd := hid h.bd
  have ez : okR ⟨K, L, X, P, S, zs⟩ = okRn K L X P S n := by unfold okR; simp only [hln]
  go_enter Try.func27, Try.ntmps27
  go_wp2_with fail
  generalize w.alloc (.cells #[.int .i64 K, .int .i64 L, .int .i64 X, .int .i64 P, .int .i64 S, .slice ad n cap] 36) = W at *
  refine (impl_RecordOk K L X P S ad n cap _).mono ?_
  rintro e w1 ⟨rfl, b⟩
  replace HX := hid (HX.out.below b (Nat.le_refl _))
  replace HQ := hid (HQ.out.below b (Nat.le_refl _))
  replace HA := hid (HA.out.trans (b.mono HA.out.size))
  replace HZ := hid (Nat.le_trans HZ.out b.size)
  clear b
  obtain ⟨ok, hok⟩ : ∃ b, okRn K L X P S n = b := ⟨_, rfl⟩
  rw [hok]
  rw [hok] at ez
  cases ok
  · have HE := hid (bytesR_no ez)
    go_wp2_with fail
    go_ret
    exact ⟨_, rfl, by rw [HE.out]; exact World.ownsRow_nil _ _ _ _, HA.out⟩
  have HE := hid (bytesR_yes ez)
  obtain ⟨g1, g2, g3, g4, g5, g6⟩ := okRn_bd hok
  obtain ⟨p, hp⟩ := Int.eq_ofNat_of_zero_le g4.1
  obtain ⟨s, hs⟩ := Int.eq_ofNat_of_zero_le g5.1
  have e1 := putL_four L (by omega) (by omega)
  have e2 := putL_four X (by omega) (by omega)
  have e3 : (putL P 2).length = 2 := by rw [hp]; exact putL_two p (by omega)
  have e4 : (putL S 2).length = 2 := by rw [hs]; exact putL_two s (by omega)
  have d1 := putL_bd L 4
  have d2 := putL_bd X 4
  have d3 := putL_bd P 2
  have d4 := putL_bd S 2
  have HBO := hid (show bodyR ⟨K, L, X, P, S, zs⟩ = putL L 4 ++ putL X 4 ++ putL P 2 ++ putL S 2 ++ zs from rfl)
  have hL : L ≤ 9223372036854775807 := by omega
  have hX : X ≤ 9223372036854775807 := by omega
  have hP : P ≤ 9223372036854775807 := by omega
  have hS : S ≤ 9223372036854775807 := by omega
  have f1 := impl_PutNum L 4
  have f2 := impl_PutNum X 4
  have f3 := impl_PutNum P 2
  have f4 := impl_PutNum S 2
  generalize putL L 4 = B1 at *
  generalize putL X 4 = B2 at *
  generalize putL P 2 = B3 at *
  generalize putL S 2 = B4 at *
  rw [e1] at f1
  rw [e2] at f2
  rw [e3] at f3
  rw [e4] at f4
  have FF := hid (And.intro f1 (And.intro f2 (And.intro f3 f4)))
  have DD := hid (And.intro d1 (And.intro d2 (And.intro d3 d4)))
  have hk1 := g1.1
  have hk2 : K ≤ 255 := by omega
  clear f1 f2 f3 f4 d1 d2 d3 d4 hp hs g2 g3 g4 g5 hok ez g1 h
  have HBF := hid (show [B1, B2, B3, B4, zs].flatten = bodyR ⟨K, L, X, P, S, zs⟩ by rw [HBO.out]; simp)
  have HBB := hid (bodyR_bd (r := ⟨K, L, X, P, S, zs⟩) Hbd.out)
  obtain ⟨c0, c1, c2, c3, c4, c5⟩ := HX.out
  go_wp2_with fail
  clear c0 c1 c2 c3 c4 c5
  replace HX := hid HX.out.drew
  replace HQ := hid (HQ.out.below ((Still.drew _).below _) (Nat.le_refl _))
  replace HA := hid (HA.out.trans ((Still.drew _).below _))
  refine region_K 16 (fun W => W.cell? ⟨w.heap.size, 0, none⟩ = some (.int .i64 K) ∧ W.cell? ⟨w.heap.size, 1, none⟩ = some (.int .i64 L) ∧ W.cell? ⟨w.heap.size, 2, none⟩ = some (.int .i64 X) ∧ W.cell? ⟨w.heap.size, 3, none⟩ = some (.int .i64 P) ∧ W.cell? ⟨w.heap.size, 4, none⟩ = some (.int .i64 S) ∧ W.cell? ⟨w.heap.size, 5, none⟩ = some (.slice ad n cap)) (by kernel_rfl) ?_ (fun hHeld => ?_)
  · exact (have q := HX.out; ⟨q.c0, q.c1, q.c2, q.c3, q.c4, q.c5⟩)
  refine anyK_take (i := 0) (v := ?v1) rfl (by kernel_rfl) (by kernel_rfl) (by kernel_rfl) (by kernel_rfl) (fun _ _ _ h => h) (by rfl) hHeld ?hy1 (some 7) (by rfl) ?rest1
  case hy1 => (intro W hSw; (try dsimp only at hSw); go_simp; (try with_reducible rfl))
  try simp only [Act.put]
  try simp only [List.setIfInBounds_toArray]
  try simp only [List.set_cons_succ, List.set_cons_zero]
  refine anyK_take (i := 1) (v := ?v2) rfl (by kernel_rfl) (by kernel_rfl) (by kernel_rfl) (by kernel_rfl) (fun _ _ _ h => h) (by rfl) hHeld ?hy2 (some 8) (by rfl) ?rest2
  case hy2 => (intro W hSw; (try dsimp only at hSw); go_simp; (try with_reducible rfl))
  try simp only [Act.put]
  try simp only [List.setIfInBounds_toArray]
  try simp only [List.set_cons_succ, List.set_cons_zero]
  refine anyK_take (i := 3) (v := ?v3) rfl (by kernel_rfl) (by kernel_rfl) (by kernel_rfl) (by kernel_rfl) (fun _ _ _ h => h) (by rfl) hHeld ?hy3 (some 10) (by rfl) ?rest3
  case hy3 => (intro W hSw; (try dsimp only at hSw); go_simp; (try with_reducible rfl))
  try simp only [Act.put]
  try simp only [List.setIfInBounds_toArray]
  try simp only [List.set_cons_succ, List.set_cons_zero]
  refine anyK_take (i := 4) (v := ?v4) rfl (by kernel_rfl) (by kernel_rfl) (by kernel_rfl) (by kernel_rfl) (fun _ _ _ h => h) (by rfl) hHeld ?hy4 (some 11) (by rfl) ?rest4
  case hy4 => (intro W hSw; (try dsimp only at hSw); go_simp; (try with_reducible rfl))
  try simp only [Act.put]
  try simp only [List.setIfInBounds_toArray]
  try simp only [List.set_cons_succ, List.set_cons_zero]
  refine anyK_take (i := 6) (v := ?v5) rfl (by kernel_rfl) (by kernel_rfl) (by kernel_rfl) (by kernel_rfl) (fun _ _ _ h => h) (by rfl) hHeld ?hy5 (some 13) (by rfl) ?rest5
  case hy5 => (intro W hSw; (try dsimp only at hSw); go_simp; (try with_reducible rfl))
  try simp only [Act.put]
  try simp only [List.setIfInBounds_toArray]
  try simp only [List.set_cons_succ, List.set_cons_zero]
  refine anyK_take (i := 7) (v := ?v6) rfl (by kernel_rfl) (by kernel_rfl) (by kernel_rfl) (by kernel_rfl) (fun _ _ _ h => h) (by rfl) hHeld ?hy6 (some 14) (by rfl) ?rest6
  case hy6 => (intro W hSw; (try dsimp only at hSw); go_simp; (try with_reducible rfl))
  try simp only [Act.put]
  try simp only [List.setIfInBounds_toArray]
  try simp only [List.set_cons_succ, List.set_cons_zero]
  refine anyK_take (i := 9) (v := ?v7) rfl (by kernel_rfl) (by kernel_rfl) (by kernel_rfl) (by kernel_rfl) (fun _ _ _ h => h) (by rfl) hHeld ?hy7 (some 16) (by rfl) ?rest7
  case hy7 => (intro W hSw; (try dsimp only at hSw); go_simp; (try with_reducible rfl))
  try simp only [Act.put]
  try simp only [List.setIfInBounds_toArray]
  try simp only [List.set_cons_succ, List.set_cons_zero]
  refine anyK_take (i := 10) (v := ?v8) rfl (by kernel_rfl) (by kernel_rfl) (by kernel_rfl) (by kernel_rfl) (fun _ _ _ h => h) (by rfl) hHeld ?hy8 (some 17) (by rfl) ?rest8
  case hy8 => (intro W hSw; (try dsimp only at hSw); go_simp; (try with_reducible rfl))
  try simp only [Act.put]
  try simp only [List.setIfInBounds_toArray]
  try simp only [List.set_cons_succ, List.set_cons_zero]
  refine anyK_take (i := 12) (v := ?v9) rfl (by kernel_rfl) (by kernel_rfl) (by kernel_rfl) (by kernel_rfl) (fun _ _ _ h => h) (by rfl) hHeld ?hy9 (some 19) (by rfl) ?rest9
  case hy9 => (intro W hSw; (try dsimp only at hSw); go_simp; (try with_reducible rfl))
  try simp only [Act.put]
  try simp only [List.setIfInBounds_toArray]
  try simp only [List.set_cons_succ, List.set_cons_zero]
  refine anyK_take (i := 13) (v := ?v10) rfl (by kernel_rfl) (by kernel_rfl) (by kernel_rfl) (by kernel_rfl) (fun _ _ _ h => h) (by rfl) hHeld ?hy10 (some 20) (by rfl) ?rest10
  case hy10 => (intro W hSw; (try dsimp only at hSw); go_simp; (try with_reducible rfl))
  try simp only [Act.put]
  try simp only [List.setIfInBounds_toArray]
  try simp only [List.set_cons_succ, List.set_cons_zero]
  refine anyK_step (i := 2) (by kernel_rfl) rfl (fun K hK => ?_)
  go_simp
  refine (FF.out.1 _ hL).mono ?_
  rintro e u1 ⟨v, rfl, o, b⟩
  obtain ⟨p1, n1, rfl, r⟩ := own_some o DD.out.1 (by omega)
  replace HX := hid (HX.out.below b (Nat.le_refl _))
  replace HQ := hid (HQ.out.below b (Nat.le_refl _))
  have HR1 := hid r
  replace HA := hid (HA.out.trans (b.mono HA.out.size))
  clear b o r
  go_wp2_with fail
  refine hK.out _ _ ?_ (fun hH2 => ?_)
  · exact (have q := HX.out; ⟨q.c0, q.c1, q.c2, q.c3, q.c4, q.c5⟩)
  clear hK K hHeld
  have hHeld := hH2
  clear hH2
  try simp only [Act.put]
  try simp only [List.setIfInBounds_toArray]
  try simp only [List.set_cons_succ, List.set_cons_zero]
  refine anyK_step (i := 5) (by kernel_rfl) rfl (fun K hK => ?_)
  go_simp
  refine (FF.out.2.1 _ hX).mono ?_
  rintro e u2 ⟨v, rfl, o, b⟩
  obtain ⟨p2, n2, rfl, r⟩ := own_some o DD.out.2.1 (by omega)
  replace HX := hid (HX.out.below b (Nat.le_refl _))
  replace HQ := hid (HQ.out.below b (Nat.le_refl _))
  replace HR1 := hid (HR1.out.below b (Nat.le_refl _))
  have HR2 := hid r
  replace HA := hid (HA.out.trans (b.mono HA.out.size))
  clear b o r
  go_wp2_with fail
  refine hK.out _ _ ?_ (fun hH2 => ?_)
  · exact (have q := HX.out; ⟨q.c0, q.c1, q.c2, q.c3, q.c4, q.c5⟩)
  clear hK K hHeld
  have hHeld := hH2
  clear hH2
  try simp only [Act.put]
  try simp only [List.setIfInBounds_toArray]
  try simp only [List.set_cons_succ, List.set_cons_zero]
  refine anyK_step (i := 8) (by kernel_rfl) rfl (fun K hK => ?_)
  go_simp
  refine (FF.out.2.2.1 _ hP).mono ?_
  rintro e u3 ⟨v, rfl, o, b⟩
  obtain ⟨p3, n3, rfl, r⟩ := own_some o DD.out.2.2.1 (by omega)
  replace HX := hid (HX.out.below b (Nat.le_refl _))
  replace HQ := hid (HQ.out.below b (Nat.le_refl _))
  replace HR1 := hid (HR1.out.below b (Nat.le_refl _))
  replace HR2 := hid (HR2.out.below b (Nat.le_refl _))
  have HR3 := hid r
  replace HA := hid (HA.out.trans (b.mono HA.out.size))
  clear b o r
  go_wp2_with fail
  refine hK.out _ _ ?_ (fun hH2 => ?_)
  · exact (have q := HX.out; ⟨q.c0, q.c1, q.c2, q.c3, q.c4, q.c5⟩)
  clear hK K hHeld
  have hHeld := hH2
  clear hH2
  try simp only [Act.put]
  try simp only [List.setIfInBounds_toArray]
  try simp only [List.set_cons_succ, List.set_cons_zero]
  refine anyK_step (i := 11) (by kernel_rfl) rfl (fun K hK => ?_)
  go_simp
  refine (FF.out.2.2.2 _ hS).mono ?_
  rintro e u4 ⟨v, rfl, o, b⟩
  obtain ⟨p4, n4, rfl, r⟩ := own_some o DD.out.2.2.2 (by omega)
  replace HX := hid (HX.out.below b (Nat.le_refl _))
  replace HQ := hid (HQ.out.below b (Nat.le_refl _))
  replace HR1 := hid (HR1.out.below b (Nat.le_refl _))
  replace HR2 := hid (HR2.out.below b (Nat.le_refl _))
  replace HR3 := hid (HR3.out.below b (Nat.le_refl _))
  have HR4 := hid r
  replace HA := hid (HA.out.trans (b.mono HA.out.size))
  clear b o r
  go_wp2_with fail
  refine hK.out _ _ ?_ (fun hH2 => ?_)
  · exact (have q := HX.out; ⟨q.c0, q.c1, q.c2, q.c3, q.c4, q.c5⟩)
  clear hK K hHeld
  have hHeld := hH2
  clear hH2
  try simp only [Act.put]
  try simp only [List.setIfInBounds_toArray]
  try simp only [List.set_cons_succ, List.set_cons_zero]
  refine anyK_step (i := 14) (by kernel_rfl) rfl (fun K hK => ?_)
  go_simp
  have bM := Below.alloc1 u4 (.cells #[.slice (some ⟨p1, 0, none⟩) 4 n1, .slice (some ⟨p2, 0, none⟩) 4 n2, .slice (some ⟨p3, 0, none⟩) 2 n3, .slice (some ⟨p4, 0, none⟩) 2 n4, .slice ad n cap] 22)
  have HXq := HX
  replace HX := hid (HX.out.below bM (Nat.le_refl _))
  refine hK.out _ _ ?_ (fun hH2 => ?_)
  · exact (have q := HX.out; ⟨q.c0, q.c1, q.c2, q.c3, q.c4, q.c5⟩)
  clear hK K hHeld
  have hHeld := hH2
  clear hH2
  try simp only [Act.put]
  try simp only [List.setIfInBounds_toArray]
  try simp only [List.set_cons_succ, List.set_cons_zero]
  refine anyK_step (i := 15) (by kernel_rfl) rfl (fun K hK => ?_)
  go_simp
  have hg := heap_alloc_new u4 (.cells #[.slice (some ⟨p1, 0, none⟩) 4 n1, .slice (some ⟨p2, 0, none⟩) 4 n2, .slice (some ⟨p3, 0, none⟩) 2 n3, .slice (some ⟨p4, 0, none⟩) 2 n4, .slice ad n cap] 22)
  have RS : ReadsS (u4.alloc (.cells #[.slice (some ⟨p1, 0, none⟩) 4 n1, .slice (some ⟨p2, 0, none⟩) 4 n2, .slice (some ⟨p3, 0, none⟩) 2 n3, .slice (some ⟨p4, 0, none⟩) 2 n4, .slice ad n cap] 22)) (some ⟨u4.heap.size, 0, none⟩) [B1, B2, B3, B4, zs] := rows5 hg (HR1.out.below bM (Nat.le_refl _)) (HR2.out.below bM (Nat.le_refl _)) (HR3.out.below bM (Nat.le_refl _)) (HR4.out.below bM (Nat.le_refl _)) (HQ.out.below bM (Nat.le_refl _)) hc (by unfold maxLen; omega)
  have htt : tot [B1, B2, B3, B4, zs] = 12 + n := by simp only [tot, e1, e2, e3, e4, hln]; omega
  refine (impl_joined (m := 5) 5 RS rfl (by omega) (by omega)).mono ?_
  rintro e w9 ⟨v, rfl, o, b⟩
  rw [htt] at o
  rw [HBF.out] at o
  obtain ⟨q1, q2, rfl, rq⟩ := own_some o HBB.out (by omega)
  have HRQ := hid rq
  replace HX := hid (HX.out.below b (Nat.le_refl _))
  replace HA := hid ((HA.out.trans (bM.mono HA.out.size)).trans (b.mono (Nat.le_trans HA.out.size bM.size)))
  clear o b rq hg RS bM htt HR1 HR2 HR3 HR4 HQ
  go_wp2_with fail
  refine hK.out _ _ ?_ (fun hH2 => ?_)
  · exact (have q := HX.out; ⟨q.c0, q.c1, q.c2, q.c3, q.c4, q.c5⟩)
  clear hK K hHeld
  have hHeld := hH2
  clear hH2
  try simp only [Act.put]
  try simp only [List.setIfInBounds_toArray]
  try simp only [List.set_cons_succ, List.set_cons_zero]
  refine anyK_last (by kernel_rfl) rfl (fun K hK => ?_)
  go_simp
  refine hK.out _ _ ?_
  clear hK K hHeld
  refine anyK_done (by kernel_rfl) ?_ _
  obtain ⟨c0, c1, c2, c3, c4, c5⟩ := HX.out
  go_wp2_with fail
  clear c0 c1 c2 c3 c4 c5
  refine (impl_Frame _ HRQ.out (by omega) K).mono ?_
  rintro e w10 ⟨v, rfl, o9, b9⟩
  obtain ⟨a9, n9, rfl⟩ := own_slice o9
  have O9 := hid (owns_base o9 HA.out.size)
  have B9 := hid (HA.out.trans (b9.mono HA.out.size))
  clear o9 b9
  go_wp2_with fail
  go_ret
  exact ⟨_, rfl, by rw [HE.out]; exact O9.out, B9.out⟩
end Go.Proofs.Ytgdnjpdheghfoaa
