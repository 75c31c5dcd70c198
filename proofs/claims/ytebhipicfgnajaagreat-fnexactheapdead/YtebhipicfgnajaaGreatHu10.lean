/- The contract of the specification's HeapDead. Conditions: what the types say. -/
import Derived.Test.YtebhipicfgnajaaGreatHt10
import Derived.Test.YtebhipicfgnajaaGreatHk10
import Derived.Test.YtebhipicfgnajaaGreatXa9
import Derived.Deep.MidRow
import Derived.Deep.QuietTactic
import Derived.BigQuiet
namespace Go.Proofs.YtebhipicfgnajaaGreat
open Go.RowKit
set_option maxRecDepth 100000

def deadW (l : List Int) (x : Int) (r : Rw) : Bool := deadB l r.t.A r.t.B x
def deadH (ps : List Pg) (l : List Int) (x : Int) : List Rw := (rowsH ps).filter (deadW l x)

set_option maxHeartbeats 6400000 in
theorem spec_HeapDead {ad : Option Addr} {n : Nat} (cap : Nat) {ps : List Pg} {al : Option Addr} {nl : Nat} (cl : Nat) {l : List Int} {w : World} (h : ReadsG w ad ps) (hl : ps.length = n) (hL : ReadsI w al nl l) (x : Int) :
    Calls Tryz.prog 53 #[.agg #[.slice ad n cap], .slice al nl cl, .int .i64 x] w fun e w' => ∃ v, e = .returned v ∧ OwnRw w' w.heap.size w'.heap.size v (deadH ps l x) ∧ (deadH ps l x).length ≤ 256 ∧ Below w.heap.size w w' := by
  obtain ⟨i0, hi, hz0, hz1, hz2⟩ := info_parts Tryz.infoRw
  have HB := hid (Below.alloc1 w (.cells #[.slice ad n cap] 26))
  have HR := hid (h.below HB.out (Nat.le_refl _))
  have HL := hid (hL.below HB.out (Nat.le_refl _))
  have C0 := hid (box1 w (.slice ad n cap) 26)
  have HBX := hid (show w.heap.size ≤ (w.alloc (.cells #[.slice ad n cap] 26)).heap.size from HB.out.size)
  clear h hL
  have c0 := C0.out
  go_enter Tryz.func53, Tryz.ntmps53
  go_wp2_with fail
  refine (spec_HeapRows cap HR.out hl).mono ?_
  rintro e W ⟨v, rfl, ow, h256, b⟩
  replace HL := hid (HL.out.below b (Nat.le_refl _))
  replace HB := hid (HB.out.trans (b.mono HB.out.size))
  have HLO := hid b.size
  clear b HR C0 c0
  have HD := hid (show deadH ps l x = (rowsH ps).filter (deadW l x) from rfl)
  obtain ⟨fs, xs, o, hf, hBd, hq⟩ := ow.own
  generalize rowsH ps = rs at *
  obtain ⟨m, hm⟩ : ∃ m, rs.length = m := ⟨_, rfl⟩
  rw [hm] at o hf h256
  obtain ⟨a1, c1, rfl⟩ := own_sl o
  have HO := hid o
  have HF := hid hf
  have HBd := hid hBd
  have HQ := hid hq
  have HM := hid hm
  clear ow o hf hBd hq hm
  generalize (w.alloc (.cells #[.slice ad n cap] 26)).heap.size = lo at *
  go_wp2_with fail
  go_loopw [7, 9] (fun sl i wr => ∃ (j k c2 : Nat) (a2 : Option Addr), j ≤ m ∧ i = .int .i64 j ∧ sl = .slice a2 k c2 ∧ k ≤ j ∧ Hid (((rs.take j).filter (deadW l x)).length = k) ∧ Hid (PickR wr lo W.heap.size a2 k c2 ((rs.take j).filter (deadW l x)) xs j) ∧ Hid (Below W.heap.size W wr)) (fun _ i _ => m - (intOf i).toNat)
  case atStart => exact ⟨0, 0, 0, none, Nat.zero_le _, rfl, rfl, by omega, hid (by simp), hid (by simpa using PickR.nil _ _ _ _), hid (Below.refl _ _)⟩
  case round =>
    obtain ⟨j, k, c2, a2, hj, rfl, rfl, hkj, HK, HP, HS⟩ := hrel
    by_cases hlt : j < m
    · have hlt' : (j : Int) < (m : Int) := by omega
      have hj0 : (0 : Int) ≤ (j : Int) := by omega
      have HStep := hid (pick_step (deadW l x) rs j (by have := HM.out; omega))
      have hrow : ∃ g, a1 = some ⟨g, 0, none⟩ := by
        rcases HO.out.2 with ⟨_, h0⟩ | ⟨g, cap, cur, e, _⟩
        · omega
        · cases e; exact ⟨g, rfl⟩
      obtain ⟨g, rfl⟩ := hrow
      have hgl : g < W.heap.size := (HO.out.lt g rfl).2
      have hca := fun q (hq : q < 12) => ((HS.out.cell (p := ⟨g, j * 12 + q, none⟩) hgl).trans (HO.out.cellAt (j * 12 + q) (by omega))).trans (cellsRw_at rs fs xs j q (by rw [HF.out, HM.out]) (by rw [HBd.out.len, textsR_len]) (by have := HM.out; omega) hq)
      have HG := hid (HQ.out j (by have := HM.out; omega))
      obtain ⟨u, hu⟩ : ∃ u, xs.getD (j * 2) nilS = u := ⟨_, rfl⟩
      obtain ⟨v, hv⟩ : ∃ v, xs.getD (j * 2 + 1) nilS = v := ⟨_, rfl⟩
      obtain ⟨r, hr⟩ : ∃ r, rs.getD j rw0 = r := ⟨_, rfl⟩
      have hr1 := HBd.out.own (j * 2)
      have hr2 := HBd.out.own (j * 2 + 1)
      rw [hu] at hca hr1
      rw [hv] at hca hr2
      rw [hr] at hca HG HStep
      obtain ⟨au, cu, rfl⟩ := own_sl hr1
      obtain ⟨av, cv, rfl⟩ := own_sl hr2
      generalize (List.getD (textsR rs) (j * 2) []).length = lu at *
      generalize (List.getD (textsR rs) (j * 2 + 1) []).length = lv at *
      generalize fs.getD j (0, 0) = ff at hca HG
      obtain ⟨f1, f2⟩ := ff
      obtain ⟨P, S, A, B, K, N, F, Z, L, M, G, Y, okk⟩ := r
      have x2 : wr.cell? ⟨g, j * 12 + 2, none⟩ = some (.int .i64 A) := by have := hca 2 (by omega); simpa [cellsOne] using this
      have x3 : wr.cell? ⟨g, j * 12 + 2 + 1, none⟩ = some (.int .i64 B) := by have := hca 3 (by omega); simpa [cellsOne] using this
      have HC := hid hca
      have HV := hid hv
      have HU := hid hu
      have HRr := hid hr
      have HLr := hid (HL.out.below HS.out (Nat.le_refl _))
      have hd0 : deadW l x ⟨P, S, ⟨A, B, K, N, F, Z, L, M, G, Y, okk⟩⟩ = deadB l A B x := rfl
      rw [hd0] at HStep
      clear hca hv hu hr hr1 hr2 hd0
      go_wp2_with fail
      go_quiet ((go_at_call 19; exact Calls.quiet_of_same (spec_Dead _ ((Still.drewN _ _).readsI HLr.out) _ _ _)))
      have HS1 := hid (HS.out.trans ((Below.drewN (B := W.heap.size) wr nq)))
      have HP1 := hid (HP.out.below (Below.drewN (B := wr.heap.size) wr nq) (Nat.le_refl _))
      have HC1 := hid (show (wr.drewN nq).rangeAt g (j * 12) [.int .i64 P, .int .i64 S, .int .i64 A, .int .i64 B, .int .i64 K, .int .i64 N, .float .f64 f1, .slice au lu cu, .int .i64 L, .int .i64 M, .float .f64 f2, .slice av lv cv] from by
        intro q u hq
        have hq12 : q < 12 := by
          have := (List.getElem?_eq_some_iff.1 hq).1
          simpa using this
        exact ((Below.drewN (B := W.heap.size) wr nq).cell (p := ⟨g, j * 12 + q, none⟩) hgl).trans ((HC.out q hq12).trans hq))
      have HX1 := hid ((HBd.out.agree (Agree.below HS1.out (Nat.le_refl _))).mono (Nat.le_refl lo) HS1.out.size)
      have HZ := hid HS1.out.size
      clear x2 x3 HS HP HC
      generalize wr.drewN nq = wq at *
      cases hdd : deadB l A B x with
      | false =>
        have HQ2 := hid (show (rs.take (j + 1)).filter (deadW l x) = (rs.take j).filter (deadW l x) by rw [HStep.out, hdd]; simp)
        go_wp2_with fail
        go_roundw
        case rel => exact ⟨j + 1, k, c2, a2, by omega, by go_num, rfl, by omega, hid (by rw [HQ2.out]; exact HK.out), hid (by rw [HQ2.out]; exact HP1.out.skip), HS1⟩
        case measure => simp [intOf]; omega
      | true =>
        have HQ2 := hid (show (rs.take (j + 1)).filter (deadW l x) = (rs.take j).filter (deadW l x) ++ [⟨P, S, ⟨A, B, K, N, F, Z, L, M, G, Y, okk⟩⟩] by rw [HStep.out, hdd]; simp)
        generalize (rs.take j).filter (deadW l x) = qs at *
        have hXa := Below.alloc1 wq (.cells #[.int .i64 P, .int .i64 S, .int .i64 A, .int .i64 B, .int .i64 K, .int .i64 N, .float .f64 f1, .slice au lu cu, .int .i64 L, .int .i64 M, .float .f64 f2, .slice av lv cv] 42)
        have HP2 := hid (HP1.out.below hXa (Nat.le_refl _))
        have HS2 := hid (HS1.out.trans (hXa.mono HS1.out.size))
        have HX2 := hid ((HX1.out.agree (Agree.below hXa (Nat.le_refl _))).mono (Nat.le_refl lo) hXa.size)
        obtain ⟨gs, ys, o7, hf7, hB7, hq7, hs7⟩ := HP2.out.ex
        have O7 := hid o7
        have F7 := hid hf7
        have B7 := hid hB7
        have Q7 := hid hq7
        have S7 := hid hs7
        clear hXa o7 hf7 hB7 hq7 hs7 HP1 HP2
        go_wp2_with (first
          | (refine wpList_load_mid rfl 42 (.tmp 36) rfl g (j * 12) rfl [.int .i64 P, .int .i64 S, .int .i64 A, .int .i64 B, .int .i64 K, .int .i64 N, .float .f64 f1, .slice au lu cu, .int .i64 L, .int .i64 M, .float .f64 f2, .slice av lv cv] _ HC1.out Tryz.underlying42 rfl ?li ?_)
          | (at_builtin; refine wpList_append_row rfl _ _ 35 rfl W.heap.size 42 i0 _ 12 128 Tryz.underlying35 hi hz0 hz1 hz2 rfl (by decide) _ _ _ rfl O7.out (some ⟨wq.heap.size, 0, none⟩) 1 1 [.int .i64 P, .int .i64 S, .int .i64 A, .int .i64 B, .int .i64 K, .int .i64 N, .float .f64 f1, .slice au lu cu, .int .i64 L, .int .i64 M, .float .f64 f2, .slice av lv cv] rfl rfl (.inr ⟨_, rfl, ?g1⟩) (fun e => by cases e) ?g2 (by unfold maxLen; omega) (by omega) ?g3 ?_))
        case li => rw [hi]; simp [hz1]
        case g1 => exact World.news_of_block (heap_alloc_new wq (.cells #[.int .i64 P, .int .i64 S, .int .i64 A, .int .i64 B, .int .i64 K, .int .i64 N, .float .f64 f1, .slice au lu cu, .int .i64 L, .int .i64 M, .float .f64 f2, .slice av lv cv] 42))
        case g2 => intro u hu; simp only [List.mem_cons, List.not_mem_nil, or_false] at hu; rcases hu with rfl | rfl | rfl | rfl | rfl | rfl | rfl | rfl | rfl | rfl | rfl | rfl <;> rfl
        case g3 => exact HS2.out.size
        intro a8 c8 w8 o8 g8
        have HN := hid (PickR.push (f := (f1, f2)) O7.out F7.out B7.out Q7.out S7.out (by have := HM.out; omega) HX2.out HRr.out HU.out HV.out HG.out o8 g8)
        have HS8 := hid (HS2.out.grown g8 HS2.out.size (fun r hr => (O7.out.lt r hr).1))
        clear o8 g8 O7
        go_wp2_with fail
        go_roundw
        case rel => exact ⟨j + 1, k + 1, c8, a8, by omega, by go_num, rfl, by omega, hid (by rw [HQ2.out]; simp [HK.out]), hid (by rw [HQ2.out]; exact HN.out), HS8⟩
        case measure => simp [intOf]; omega
    · have hlt' : ¬ (j : Int) < (m : Int) := by omega
      go_wp2_with fail
      go_ret
      have ej : rs.take j = rs := List.take_of_length_le (by rw [HM.out]; omega)
      have hK := HK.out
      have hP := HP.out
      rw [ej] at hK hP
      rw [HD.out]
      exact ⟨_, rfl, (hP.own hK HLO.out).mono HBX.out (Nat.le_refl _), by omega, HB.out.trans (HS.out.mono HB.out.size)⟩
end Go.Proofs.YtebhipicfgnajaaGreat
