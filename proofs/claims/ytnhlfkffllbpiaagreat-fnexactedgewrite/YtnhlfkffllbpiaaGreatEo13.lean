/- The contract of the specification's l13copy. Conditions: at most 2^20 tracks, reads and writes, texts of at most 2^21 bytes. -/
import Derived.Test.YtnhlfkffllbpiaaGreatEn13
import Derived.Test.YtnhlfkffllbpiaaGreatEl13
namespace Go.Proofs.YtnhlfkffllbpiaaGreat
open Go.RowKit
set_option maxRecDepth 100000
def lnT (ts : List Tk) : Prop := ∀ i, (ts.getD i tk0).rs.length ≤ 1048576 ∧ (ts.getD i tk0).ws.length ≤ 1048576
set_option maxHeartbeats 12800000 in
theorem spec_l13copy {ad : Option Addr} {n : Nat} (cap : Nat) {ts : List Tk} {w : World} (h : ReadsT w ad ts) (hl : ts.length = n) (hn : n ≤ 1048576) (hs : smT ts) (hln : lnT ts) :
 Calls Tryz.prog 20 #[.slice ad n cap] w fun e w' => ∃ v, e = .returned v ∧ OwnT w' w.heap.size w'.heap.size v ts ∧ Below w.heap.size w w' := by
 obtain ⟨i0, hi, hz0, hz1, hz2⟩ := info_parts Tryz.infoTk
 go_enter Tryz.func20, Tryz.ntmps20
 go_wp2_with fail
 go_loopw [3, 4] (fun s3 i wr => ∃ (k : Nat) (a : Option Addr) (c : Nat) (ms : List Mt), k ≤ n ∧ i = .int .i64 k ∧ s3 = .slice a k c ∧ Hid (wr.ownsRow w.heap.size 52 8 (.slice a k c) k (cellsT (ts.take k) ms)) ∧ Hid (BandsT wr w.heap.size wr.heap.size ms (ts.take k)) ∧ Hid (Below w.heap.size w wr)) (fun _ i _ => n - (intOf i).toNat)
 case atStart => exact ⟨0, none, 0, [], Nat.zero_le _, rfl, rfl, hid (World.ownsRow_nil _ _ _ _), hid (BandsT.nil _ _ _), hid (Below.refl _ _)⟩
 case round =>
  obtain ⟨k, a, c, ms, hk, rfl, rfl, HO, HT, HB⟩ := hrel
  by_cases hlt : k < n
  · have hlt' : (k : Int) < (n : Int) := by omega
    have hk0 : (0 : Int) ≤ (k : Int) := by omega
    obtain ⟨b, off, a1, c1, a2, c2, rfl, bx0, r1, _, r2, _⟩ := h.at (k := k) (by omega)
    have bx := bx0.below HB.out (Nat.le_refl _)
    have HTk := hid (take_snocT ts k (by omega))
    obtain ⟨sm1, sm2⟩ := hs k
    obtain ⟨ln1, ln2⟩ := hln k
    have HR1 := hid r1
    have HR2 := hid r2
    have HSM := hid (And.intro sm1 sm2)
    generalize ts.getD k tk0 = t at *
    obtain ⟨xi, be, en, al, rs, ws, inn, ou⟩ := t
    simp only at bx HR1 HR2 HSM ln1 ln2
    obtain ⟨n1, hn1⟩ : ∃ n1, rs.length = n1 := ⟨_, rfl⟩
    obtain ⟨n2, hn2⟩ : ∃ n2, ws.length = n2 := ⟨_, rfl⟩
    simp only [hn1] at bx ln1
    simp only [hn2] at bx ln2
    have HN1 := hid (show (fl2 rs).length = n1 * 2 by rw [fl2_len, hn1])
    have HN1' := hid hn1
    have HN2 := hid hn2
    have bA := Below.alloc1 wr (.cells #[.int .i64 xi, .int .i64 be, .int .i64 en, .bool al, .slice a1 n1 c1, .slice a2 n2 c2, .bool inn, .bool ou] 52)
    have RA := hid (heap_alloc_new wr (.cells #[.int .i64 xi, .int .i64 be, .int .i64 en, .bool al, .slice a1 n1 c1, .slice a2 n2 c2, .bool inn, .bool ou] 52))
    have ZA := hid (alloc_size wr (.cells #[.int .i64 xi, .int .i64 be, .int .i64 en, .bool al, .slice a1 n1 c1, .slice a2 n2 c2, .bool inn, .bool ou] 52))
    have HBA := hid (HB.out.trans (bA.mono HB.out.size))
    have HOA := hid (owns_below bA (Nat.le_refl _) HO.out)
    have HTA := hid (HT.out.agree (Agree.below bA (Nat.le_refl _)))
    have HS0 := hid HB.out.size
    have HLT := hid (fun b (hb : (Value.slice a k c).ownBlock = some b) => (HO.out.lt b hb).2)
    obtain ⟨x0, x1, x2, x3, x4, x5, x6, x7⟩ := bx
    simp only at x0 x1 x2 x3 x6 x7
    clear bx0 r1 r2 sm1 sm2 hn1 hn2 bA HO HT HB
    go_wp2_with fail
    clear x0 x1 x2 x3 x4 x5 x6 x7
    generalize wr.alloc (.cells #[.int .i64 xi, .int .i64 be, .int .i64 en, .bool al, .slice a1 n1 c1, .slice a2 n2 c2, .bool inn, .bool ou] 52) = W at *
    obtain ⟨g, hg⟩ : ∃ g, wr.heap.size = g := ⟨_, rfl⟩
    rw [hg] at RA ZA HTA HS0 HLT
    try simp only [hg]
    clear hg
    refine (spec_l13spans c1 (HR1.out.below HBA.out (Nat.le_refl _)) HN1.out ln1 HSM.out.1).mono ?_
    rintro e w1 ⟨v1, rfl, oS, b1⟩
    obtain ⟨q1, d1, rfl⟩ := oS.slice
    have zW := ZA.out
    have s1 := b1.size
    have t1 := (b1.block g (by omega)).trans RA.out
    have k4 : w1.cell? ⟨g, 4, none⟩ = some (.slice a1 n1 c1) := by rw [cell_of_row _ _ _ _ _ _ t1]; rfl
    have f4 : w1.frozen? ⟨g, 4, none⟩ = false := frozen_of_row _ _ _ _ _ t1
    have v2 := heap_setCell_same w1 g 4 _ 52 (.slice q1 n1 d1) t1
    have k5 : (w1.setCell ⟨g, 4, none⟩ (.slice q1 n1 d1)).cell? ⟨g, 5, none⟩ = some (.slice a2 n2 c2) := by rw [cell_of_row _ _ _ _ _ _ v2]; rfl
    have k5' : w1.cell? ⟨g, 5, none⟩ = some (.slice a2 n2 c2) := by rw [cell_of_row _ _ _ _ _ _ t1]; rfl
    have K1 : Keeps (fun b => b = g) w1 (w1.setCell ⟨g, 4, none⟩ (.slice q1 n1 d1)) := Keeps.set (X := fun b => b = g) w1 (p := ⟨g, 4, none⟩) rfl _
    have zU : (w1.setCell ⟨g, 4, none⟩ (.slice q1 n1 d1)).heap.size = w1.heap.size := set_size _ _ _
    have HBU := hid (show Below w.heap.size w (w1.setCell ⟨g, 4, none⟩ (.slice q1 n1 d1)) from (HBA.out.trans (b1.mono HBA.out.size)).setCell (p := ⟨g, 4, none⟩) (by have := HS0.out; simp only; omega) _)
    have HOU := hid (owns_keep (owns_below b1 (by omega) HOA.out) K1 (fun b hb e => by have := HLT.out b hb; omega))
    have HTU := hid ((HTA.out.agree (Agree.below b1 (by omega))).agree (w' := w1.setCell ⟨g, 4, none⟩ (.slice q1 n1 d1)) (fun j j1 j2 => K1.block j (by omega) (by omega)))
    have HSU := hid (oS.agree (w' := w1.setCell ⟨g, 4, none⟩ (.slice q1 n1 d1)) (fun j j1 j2 => K1.block j (by omega) (by omega)))
    have HV2 := hid v2
    have HSz := hid (show g < W.heap.size ∧ W.heap.size ≤ w1.heap.size ∧ (w1.setCell ⟨g, 4, none⟩ (.slice q1 n1 d1)).heap.size = w1.heap.size from ⟨by omega, s1, zU⟩)
    clear zW s1 t1 v2 K1 zU oS b1 HBA HOA HTA RA
    go_wp2_with fail
    clear k4 f4 k5 k5'
    generalize w1.setCell ⟨g, 4, none⟩ (.slice q1 n1 d1) = U at *
    refine (spec_l13items c2 (HR2.out.below HBU.out (Nat.le_refl _)) HN2.out ln2 HSM.out.2).mono ?_
    rintro e w2 ⟨v2, rfl, oI, b2⟩
    obtain ⟨q2, d2, rfl⟩ := oI.slice
    have hsz := HSz.out
    have s2 := b2.size
    have t2 := (b2.block g (by omega)).trans HV2.out
    have k5 : w2.cell? ⟨g, 5, none⟩ = some (.slice a2 n2 c2) := by rw [cell_of_row _ _ _ _ _ _ t2]; rfl
    have f5 : w2.frozen? ⟨g, 5, none⟩ = false := frozen_of_row _ _ _ _ _ t2
    have v3 := heap_setCell_same w2 g 5 _ 52 (.slice q2 n2 d2) t2
    have K2 : Keeps (fun b => b = g) w2 (w2.setCell ⟨g, 5, none⟩ (.slice q2 n2 d2)) := Keeps.set (X := fun b => b = g) w2 (p := ⟨g, 5, none⟩) rfl _
    have zV : (w2.setCell ⟨g, 5, none⟩ (.slice q2 n2 d2)).heap.size = w2.heap.size := set_size _ _ _
    have HBV := hid (show Below w.heap.size w (w2.setCell ⟨g, 5, none⟩ (.slice q2 n2 d2)) from (HBU.out.trans (b2.mono HBU.out.size)).setCell (p := ⟨g, 5, none⟩) (by have := HS0.out; simp only; omega) _)
    have HOV := hid (owns_keep (owns_below b2 (by omega) HOU.out) K2 (fun b hb e => by have := HLT.out b hb; omega))
    have HTV := hid ((HTU.out.agree (Agree.below b2 (by omega))).agree (w' := w2.setCell ⟨g, 5, none⟩ (.slice q2 n2 d2)) (fun j j1 j2 => K2.block j (by omega) (by omega)))
    have HSV := hid ((HSU.out.agree (Agree.below b2 (by omega))).agree (w' := w2.setCell ⟨g, 5, none⟩ (.slice q2 n2 d2)) (fun j j1 j2 => K2.block j (by omega) (by omega)))
    have HIV := hid (oI.agree (w' := w2.setCell ⟨g, 5, none⟩ (.slice q2 n2 d2)) (fun j j1 j2 => K2.block j (by omega) (by omega)))
    have HV3 := hid v3
    have HS2 := hid (show g < W.heap.size ∧ W.heap.size ≤ w1.heap.size ∧ U.heap.size = w1.heap.size ∧ U.heap.size ≤ w2.heap.size ∧ (w2.setCell ⟨g, 5, none⟩ (.slice q2 n2 d2)).heap.size = w2.heap.size from ⟨hsz.1, hsz.2.1, hsz.2.2, s2, zV⟩)
    have y0 : (w2.setCell ⟨g, 5, none⟩ (.slice q2 n2 d2)).cell? ⟨g, 0, none⟩ = some (.int .i64 xi) := by rw [cell_of_row _ _ _ _ _ _ v3]; rfl
    have y1 : (w2.setCell ⟨g, 5, none⟩ (.slice q2 n2 d2)).cell? ⟨g, 1, none⟩ = some (.int .i64 be) := by rw [cell_of_row _ _ _ _ _ _ v3]; rfl
    have y2 : (w2.setCell ⟨g, 5, none⟩ (.slice q2 n2 d2)).cell? ⟨g, 2, none⟩ = some (.int .i64 en) := by rw [cell_of_row _ _ _ _ _ _ v3]; rfl
    have y3 : (w2.setCell ⟨g, 5, none⟩ (.slice q2 n2 d2)).cell? ⟨g, 3, none⟩ = some (.bool al) := by rw [cell_of_row _ _ _ _ _ _ v3]; rfl
    have y4 : (w2.setCell ⟨g, 5, none⟩ (.slice q2 n2 d2)).cell? ⟨g, 4, none⟩ = some (.slice q1 n1 d1) := by rw [cell_of_row _ _ _ _ _ _ v3]; rfl
    have y5 : (w2.setCell ⟨g, 5, none⟩ (.slice q2 n2 d2)).cell? ⟨g, 5, none⟩ = some (.slice q2 n2 d2) := by rw [cell_of_row _ _ _ _ _ _ v3]; rfl
    have y6 : (w2.setCell ⟨g, 5, none⟩ (.slice q2 n2 d2)).cell? ⟨g, 6, none⟩ = some (.bool inn) := by rw [cell_of_row _ _ _ _ _ _ v3]; rfl
    have y7 : (w2.setCell ⟨g, 5, none⟩ (.slice q2 n2 d2)).cell? ⟨g, 7, none⟩ = some (.bool ou) := by rw [cell_of_row _ _ _ _ _ _ v3]; rfl
    clear hsz s2 t2 v3 K2 zV oI b2 HBU HOU HTU HSU HV2 HSz
    have bA := Below.alloc1 (w2.setCell ⟨g, 5, none⟩ (.slice q2 n2 d2)) (.cells #[.int .i64 xi, .int .i64 be, .int .i64 en, .bool al, .slice q1 n1 d1, .slice q2 n2 d2, .bool inn, .bool ou] 52)
    have zA := alloc_size (w2.setCell ⟨g, 5, none⟩ (.slice q2 n2 d2)) (.cells #[.int .i64 xi, .int .i64 be, .int .i64 en, .bool al, .slice q1 n1 d1, .slice q2 n2 d2, .bool inn, .bool ou] 52)
    have hnw := heap_alloc_new (w2.setCell ⟨g, 5, none⟩ (.slice q2 n2 d2)) (.cells #[.int .i64 xi, .int .i64 be, .int .i64 en, .bool al, .slice q1 n1 d1, .slice q2 n2 d2, .bool inn, .bool ou] 52)
    rw [show (w2.setCell ⟨g, 5, none⟩ (.slice q2 n2 d2)).heap.size = w2.heap.size from set_size _ _ _] at hnw
    have HN := hid hnw
    clear hnw
    have HOA := hid (owns_below bA (Nat.le_refl _) HOV.out)
    have HTA := hid (HTV.out.agree (Agree.below bA (by have := HS2.out; omega)))
    have HSA := hid (HSV.out.below bA (by have := HS2.out; omega))
    have HIA := hid (HIV.out.below bA (by have := HS2.out; omega))
    have HBA := hid (HBV.out.trans (bA.mono HBV.out.size))
    have HS3 := hid (And.intro HS2.out zA)
    clear bA zA HOV HTV HSV HIV HBV HV3
    go_wp2_with (at_builtin; refine wpList_append_row rfl _ _ 29 rfl w.heap.size 52 i0 (.agg #[.int .i64 0, .int .i64 0, .int .i64 0, .bool false, .slice none 0 0, .slice none 0 0, .bool false, .bool false]) 8 88 Tryz.underlying29 hi hz0 hz1 hz2 rfl (by decide) _ k (cellsT (ts.take k) ms) rfl HOA.out (some ⟨w2.heap.size, 0, none⟩) 1 1 [.int .i64 xi, .int .i64 be, .int .i64 en, .bool al, .slice q1 n1 d1, .slice q2 n2 d2, .bool inn, .bool ou] rfl rfl (.inr ⟨_, rfl, World.news_of_block HN.out⟩) (fun e => by cases e) ?m1 ?m2 ?m3 ?m4 ?_)
    case m1 => intro z hz; simp only [List.mem_cons, List.not_mem_nil, or_false] at hz; rcases hz with rfl | rfl | rfl | rfl | rfl | rfl | rfl | rfl <;> rfl
    case m2 => unfold maxLen; omega
    case m3 => omega
    case m4 => exact HBA.out.size
    intro a5 c5 w5 o5 g5
    have hss := HS3.out
    obtain ⟨xs, xS⟩ := HSA.out.x
    obtain ⟨ys, xI⟩ := HIA.out.x
    have OT : OwnT1 ((w2.setCell ⟨g, 5, none⟩ (.slice q2 n2 d2)).alloc (.cells #[.int .i64 xi, .int .i64 be, .int .i64 en, .bool al, .slice q1 n1 d1, .slice q2 n2 d2, .bool inn, .bool ou] 52)) g ((w2.setCell ⟨g, 5, none⟩ (.slice q2 n2 d2)).alloc (.cells #[.int .i64 xi, .int .i64 be, .int .i64 en, .bool al, .slice q1 n1 d1, .slice q2 n2 d2, .bool inn, .bool ou] 52)).heap.size ⟨.slice q1 n1 d1, xs, .slice q2 n2 d2, ys⟩ ⟨xi, be, en, al, rs, ws, inn, ou⟩ :=
     ⟨by simp only [HN1'.out]; exact xS.mono (by omega) (by omega), by simp only [HN2.out]; exact xI.mono (by omega) (by omega), fun c hc hc' => by
      have h1 := blkL_ge xS.txt hc
      have h2 := blkL_ge xI.txt hc'
      omega⟩
    have BT := (HTA.out.snoc (hi := ((w2.setCell ⟨g, 5, none⟩ (.slice q2 n2 d2)).alloc (.cells #[.int .i64 xi, .int .i64 be, .int .i64 en, .bool al, .slice q1 n1 d1, .slice q2 n2 d2, .bool inn, .bool ou] 52)).heap.size) HS0.out (by omega) OT).beside HOA.out g5
    have hml := HTA.out.len
    have N1 := hid (show w5.ownsRow w.heap.size 52 8 (.slice a5 (k + 1) c5) (k + 1) (cellsT (ts.take (k + 1)) (ms ++ [⟨.slice q1 n1 d1, xs, .slice q2 n2 d2, ys⟩])) by
     rw [HTk.out, cellsT_app _ _ _ _ hml]
     exact o5)
    have N2 := hid (show BandsT w5 w.heap.size w5.heap.size (ms ++ [⟨.slice q1 n1 d1, xs, .slice q2 n2 d2, ys⟩]) (ts.take (k + 1)) by
     rw [HTk.out]
     exact BT.mono (Nat.le_refl _) g5.size)
    have N3 := hid (HBA.out.grown g5 HBA.out.size (fun r e => (HOA.out.lt r e).1))
    clear hss xS xI OT BT hml o5 g5 HOA HTA HSA HIA HBA HN y0 y1 y2 y3 y4 y5 y6 y7 k5 f5
    go_wp2_with fail
    go_roundw
    case rel => exact ⟨k + 1, a5, c5, _, by omega, by go_num, rfl, N1, N2, N3⟩
    case measure => simp [intOf]; omega
  · have hlt' : ¬ (k : Int) < (n : Int) := by omega
    have hkn : k = n := by omega
    subst hkn
    go_wp2_with fail
    go_ret
    have e1 := HO.out
    have e2 := HT.out
    rw [List.take_of_length_le (by omega)] at e1 e2
    exact ⟨_, rfl, e2.t (by rw [hl]; exact e1) (fun g hg => (HO.out.lt g hg).2), HB.out⟩
end Go.Proofs.YtnhlfkffllbpiaaGreat
