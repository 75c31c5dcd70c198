/- The contracts of the program's copiedTrack and of its copy of tracks. Conditions: at most 2^20 tracks, reads and writes, texts of at most 2^21 bytes. -/
import Derived.Test.YtnhlfkffllbpiaaGreatFe13
import Derived.Test.YtnhlfkffllbpiaaGreatEo13
namespace Go.Proofs.YtnhlfkffllbpiaaGreat
open Go.RowKit
set_option maxRecDepth 100000
theorem set_size13e (w : World) (a : Addr) (u : Value) : (w.setCell a u).heap.size = w.heap.size := by simp
set_option maxHeartbeats 6400000 in
theorem impl_copiedTrack (xi be en : Int) (al inn ou : Bool) {rs : List (Im × Im)} {ws : List Im} {a1 : Option Addr} {n1 : Nat} (c1 : Nat) {a2 : Option Addr} {n2 : Nat} (c2 : Nat) {w : World} (h : ReadsM w a1 (fl2 rs)) (hl : rs.length = n1) (hs : ∀ i, ((fl2 rs).getD i im0).Z.length ≤ 2097152) (h' : ReadsM w a2 ws) (hl' : ws.length = n2) (hs' : ∀ i, (ws.getD i im0).Z.length ≤ 2097152) (hn1 : n1 ≤ 1048576) (hn2 : n2 ≤ 1048576) :
 Calls Tryz.prog 30 #[.agg #[.int .i64 xi, .int .i64 be, .int .i64 en, .bool al, .slice a1 n1 c1, .slice a2 n2 c2, .bool inn, .bool ou]] w fun e w' => ∃ q1 d1 q2 d2 xs ys, e = .returned (.agg #[.int .i64 xi, .int .i64 be, .int .i64 en, .bool al, .slice q1 n1 d1, .slice q2 n2 d2, .bool inn, .bool ou]) ∧ OwnT1 w' w.heap.size w'.heap.size ⟨.slice q1 n1 d1, xs, .slice q2 n2 d2, ys⟩ ⟨xi, be, en, al, rs, ws, inn, ou⟩ ∧ Below w.heap.size w w' := by
 have hB := two w (.cells #[.int .i64 xi, .int .i64 be, .int .i64 en, .bool al, .slice a1 n1 c1, .slice a2 n2 c2, .bool inn, .bool ou] 52) (.cells #[.int .i64 0, .int .i64 0, .int .i64 0, .bool false, .slice none 0 0, .slice none 0 0, .bool false, .bool false] 52)
 obtain ⟨R1, R2, z⟩ := two_rows13 w (.cells #[.int .i64 xi, .int .i64 be, .int .i64 en, .bool al, .slice a1 n1 c1, .slice a2 n2 c2, .bool inn, .bool ou] 52) (.cells #[.int .i64 0, .int .i64 0, .int .i64 0, .bool false, .slice none 0 0, .slice none 0 0, .bool false, .bool false] 52)
 have HB := hid hB
 have HR1 := hid R1
 have HR2 := hid R2
 have HZ := hid z
 have HRM := hid (h.below hB (Nat.le_refl _))
 have HW0 := hid h'
 have HL := hid (show (fl2 rs).length = n1 * 2 by rw [fl2_len, hl])
 have HLr := hid hl
 have HL' := hid hl'
 have HS := hid hs
 have HS' := hid hs'
 clear hB R1 R2 z h h' hl hl' hs hs'
 go_enter Tryz.func30, Tryz.ntmps30
 go_wp2_with fail
 generalize ((w.alloc (.cells #[.int .i64 xi, .int .i64 be, .int .i64 en, .bool al, .slice a1 n1 c1, .slice a2 n2 c2, .bool inn, .bool ou] 52)).alloc (.cells #[.int .i64 0, .int .i64 0, .int .i64 0, .bool false, .slice none 0 0, .slice none 0 0, .bool false, .bool false] 52)) = W at *
 obtain ⟨g, hg⟩ : ∃ g, w.heap.size = g := ⟨_, rfl⟩
 have HG := hid hg
 rw [hg] at HR1 HR2 HZ
 try simp only [hg]
 clear hg
 refine (impl_copiedSpans c1 HRM.out HL.out hn1 HS.out).mono ?_
 rintro e w1 ⟨v1, rfl, oS, b1⟩
 obtain ⟨q1, d1, rfl⟩ := oS.slice
 have zW := HZ.out
 have s1 := b1.size
 have t1 := (b1.block g (by omega)).trans HR1.out
 have t1' := (b1.block (g + 1) (by omega)).trans HR2.out
 have k4 : w1.cell? ⟨g, 4, none⟩ = some (.slice a1 n1 c1) := by rw [cell_of_row _ _ _ _ _ _ t1]; rfl
 have k5 : w1.cell? ⟨g, 5, none⟩ = some (.slice a2 n2 c2) := by rw [cell_of_row _ _ _ _ _ _ t1]; rfl
 have f4 : w1.frozen? ⟨g, 4, none⟩ = false := frozen_of_row _ _ _ _ _ t1
 have v2 : (w1.setCell ⟨g, 4, none⟩ (.slice q1 n1 d1)).heap[g]? = some (.cells #[.int .i64 xi, .int .i64 be, .int .i64 en, .bool al, .slice q1 n1 d1, .slice a2 n2 c2, .bool inn, .bool ou] 52) := by rw [heap_setCell_same _ _ _ _ _ _ t1]; rfl
 have v2' := (heap_setCell_other w1 ⟨g, 4, none⟩ (g + 1) (.slice q1 n1 d1) (by simp)).trans t1'
 have K1 : Keeps (fun b => b = g) w1 (w1.setCell ⟨g, 4, none⟩ (.slice q1 n1 d1)) := Keeps.set (X := fun b => b = g) w1 (p := ⟨g, 4, none⟩) rfl _
 have zU : (w1.setCell ⟨g, 4, none⟩ (.slice q1 n1 d1)).heap.size = w1.heap.size := set_size13e _ _ _
 have HBU := hid (show Below w.heap.size w (w1.setCell ⟨g, 4, none⟩ (.slice q1 n1 d1)) from (HB.out.trans (b1.mono HB.out.size)).setCell (p := ⟨g, 4, none⟩) (by rw [HG.out]; exact Nat.le_refl _) _)
 have HWU := hid (show ReadsM (w1.setCell ⟨g, 4, none⟩ (.slice q1 n1 d1)) a2 ws from HW0.out.below HBU.out (Nat.le_refl _))
 have HSU := hid (oS.agree (w' := w1.setCell ⟨g, 4, none⟩ (.slice q1 n1 d1)) (fun j j1 j2 => K1.block j (by omega) (by omega)))
 have HV2 := hid v2
 have HV2' := hid v2'
 have HSz := hid (show g + 2 = W.heap.size ∧ W.heap.size ≤ w1.heap.size ∧ (w1.setCell ⟨g, 4, none⟩ (.slice q1 n1 d1)).heap.size = w1.heap.size from ⟨by omega, s1, zU⟩)
 clear zW s1 t1 t1' v2 v2' K1 zU oS b1 HR1 HR2
 go_wp2_with fail
 clear k4 k5 f4
 generalize w1.setCell ⟨g, 4, none⟩ (.slice q1 n1 d1) = U at *
 refine (impl_copiedItems c2 HWU.out HL'.out hn2 HS'.out).mono ?_
 rintro e w2 ⟨v2, rfl, oI, b2⟩
 obtain ⟨q2, d2, rfl⟩ := oI.slice
 have hsz := HSz.out
 have s2 := b2.size
 have t2 := (b2.block g (by omega)).trans HV2.out
 have t2' := (b2.block (g + 1) (by omega)).trans HV2'.out
 have f5 : w2.frozen? ⟨g, 5, none⟩ = false := frozen_of_row _ _ _ _ _ t2
 have y0 := cell_of_row _ _ 0 _ _ _ t2
 have y1 := cell_of_row _ _ 1 _ _ _ t2
 have y2 := cell_of_row _ _ 2 _ _ _ t2
 have y3 := cell_of_row _ _ 3 _ _ _ t2
 have y4 := cell_of_row _ _ 4 _ _ _ t2
 have y5 := cell_of_row _ _ 5 _ _ _ t2
 have y6 := cell_of_row _ _ 6 _ _ _ t2
 have y7 := cell_of_row _ _ 7 _ _ _ t2
 have K2 : Keeps (fun b => b = g ∨ b = g + 1) w2 ((w2.setCell ⟨g, 5, none⟩ (.slice q2 n2 d2)).setRow (g + 1) #[.int .i64 xi, .int .i64 be, .int .i64 en, .bool al, .slice q1 n1 d1, .slice q2 n2 d2, .bool inn, .bool ou]) :=
  (Keeps.set (X := fun b => b = g ∨ b = g + 1) w2 (p := ⟨g, 5, none⟩) (.inl rfl) _).trans ⟨rfl, rfl, rfl, by simp, fun k _ hx => setRow_other _ _ _ _ (fun e => hx (.inr e))⟩
 have T1 := hid ((heap_setCell_other w2 ⟨g, 5, none⟩ (g + 1) (.slice q2 n2 d2) (by simp)).trans t2')
 have HBV := hid (below_setRow ((HBU.out.trans (b2.mono HBU.out.size)).setCell (p := ⟨g, 5, none⟩) (by rw [HG.out]; exact Nat.le_refl _) (.slice q2 n2 d2)) (show w.heap.size ≤ g + 1 by have := HG.out; omega) #[.int .i64 xi, .int .i64 be, .int .i64 en, .bool al, .slice q1 n1 d1, .slice q2 n2 d2, .bool inn, .bool ou])
 have HSV := hid ((HSU.out.agree (Agree.below b2 (by omega))).agree (w' := (w2.setCell ⟨g, 5, none⟩ (.slice q2 n2 d2)).setRow (g + 1) #[.int .i64 xi, .int .i64 be, .int .i64 en, .bool al, .slice q1 n1 d1, .slice q2 n2 d2, .bool inn, .bool ou]) (fun j j1 j2 => K2.block j (by omega) (by omega)))
 have HIV := hid (oI.agree (w' := (w2.setCell ⟨g, 5, none⟩ (.slice q2 n2 d2)).setRow (g + 1) #[.int .i64 xi, .int .i64 be, .int .i64 en, .bool al, .slice q1 n1 d1, .slice q2 n2 d2, .bool inn, .bool ou]) (fun j j1 j2 => K2.block j (by omega) (by omega)))
 have HS2 := hid (show g + 2 = W.heap.size ∧ W.heap.size ≤ w1.heap.size ∧ U.heap.size = w1.heap.size ∧ U.heap.size ≤ w2.heap.size ∧ ((w2.setCell ⟨g, 5, none⟩ (.slice q2 n2 d2)).setRow (g + 1) #[.int .i64 xi, .int .i64 be, .int .i64 en, .bool al, .slice q1 n1 d1, .slice q2 n2 d2, .bool inn, .bool ou]).heap.size = w2.heap.size from ⟨hsz.1, hsz.2.1, hsz.2.2, s2, by rw [setRow_size, set_size13e]⟩)
 clear hsz s2 t2 t2' K2 oI b2 HBU HSU HV2 HV2' HSz
 go_wp2_with (refine wpList_store_row rfl 52 (.tmp 2) (.tmp 11) rfl (g + 1) #[.int .i64 xi, .int .i64 be, .int .i64 en, .bool al, .slice q1 n1 d1, .slice q2 n2 d2, .bool inn, .bool ou] rfl rfl 52 _ T1.out ?s1 ?s2 ?s3 ?_)
 case s1 => exact size_tk
 case s2 => rfl
 case s3 => simp [Value.oneCell']
 obtain ⟨xs, xS⟩ := HSV.out.x
 obtain ⟨ys, xI⟩ := HIV.out.x
 have hss := HS2.out
 have hgg := HG.out
 refine bodyPost_ret (results_cell_row Tryz.results30 _ _ (g + 1) 52 _ (0, 0) _ rfl (setRow_heap _ _ _ _ _ _ T1.out) Tryz.underlying52 rfl size_tk) rfl ⟨q1, d1, q2, d2, xs, ys, rfl, ⟨?_, ?_, fun c hc hc' => ?_⟩, HBV.out⟩
 · simp only [HLr.out]; exact xS.mono (by omega) (by omega)
 · simp only [HL'.out]; exact xI.mono (by omega) (by omega)
 · have h1 := blkL_ge xS.txt hc
   have h2 := blkL_ge xI.txt hc'
   omega
set_option maxHeartbeats 6400000 in
theorem impl_copiedTracks {ad : Option Addr} {n : Nat} (cap : Nat) {ts : List Tk} {w : World} (h : ReadsT w ad ts) (hl : ts.length = n) (hn : n ≤ 1048576) (hs : smT ts) (hln : lnT ts) :
 Calls Tryz.prog 29 #[.slice ad n cap, .func (.func 30) #[] #[]] w fun e w' => ∃ v, e = .returned v ∧ OwnT w' w.heap.size w'.heap.size v ts ∧ Below w.heap.size w w' := by
 obtain ⟨i0, hi, hz0, hz1, hz2⟩ := info_parts Tryz.infoTk
 go_enter Tryz.func29, Tryz.ntmps29
 go_wp2_with fail
 go_loopw [5, 10] (fun s3 i wr => ∃ (k : Nat) (a : Option Addr) (c : Nat) (ms : List Mt), k ≤ n ∧ i = .int .i64 k ∧ s3 = .slice a k c ∧ Hid (wr.ownsRow w.heap.size 52 8 (.slice a k c) k (cellsT (ts.take k) ms)) ∧ Hid (BandsT wr w.heap.size wr.heap.size ms (ts.take k)) ∧ Hid (Below w.heap.size w wr)) (fun _ i _ => n - (intOf i).toNat)
 case atStart => exact ⟨0, none, 0, [], Nat.zero_le _, rfl, rfl, hid (World.ownsRow_nil _ _ _ _), hid (BandsT.nil _ _ _), hid (Below.refl _ _)⟩
 case round =>
  obtain ⟨k, a, c, ms, hk, rfl, rfl, HO, HT, HB⟩ := hrel
  by_cases hlt : k < n
  · have hlt' : (k : Int) < (n : Int) := by omega
    have hk0 : (0 : Int) ≤ (k : Int) := by omega
    obtain ⟨b, off, a1, c1, a2, c2, rfl, bx0, r1, _, r2, _⟩ := h.at (k := k) (by omega)
    obtain ⟨x0, x1, x2, x3, x4, x5, x6, x7⟩ := bx0.below HB.out (Nat.le_refl _)
    have HTk := hid (take_snocT ts k (by omega))
    have HSM := hid (hs k)
    obtain ⟨ln1, ln2⟩ := hln k
    generalize ts.getD k tk0 = t at *
    obtain ⟨xi, be, en, al, rs, ws, inn, ou⟩ := t
    simp only at x0 x1 x2 x3 x4 x5 x6 x7 r1 r2 HSM ln1 ln2
    obtain ⟨n1, hn1⟩ : ∃ n1, rs.length = n1 := ⟨_, rfl⟩
    obtain ⟨n2, hn2⟩ : ∃ n2, ws.length = n2 := ⟨_, rfl⟩
    rw [hn1] at x4 ln1
    rw [hn2] at x5 ln2
    have HN := hid (And.intro hn1 hn2)
    have bA := Below.alloc1 wr (.cells #[.int .i64 xi, .int .i64 be, .int .i64 en, .bool al, .slice a1 n1 c1, .slice a2 n2 c2, .bool inn, .bool ou] 52)
    have zA := alloc_size wr (.cells #[.int .i64 xi, .int .i64 be, .int .i64 en, .bool al, .slice a1 n1 c1, .slice a2 n2 c2, .bool inn, .bool ou] 52)
    have HBA := hid (HB.out.trans (bA.mono HB.out.size))
    have HOA := hid (owns_below bA (Nat.le_refl _) HO.out)
    have HTA := hid (HT.out.agree (Agree.below bA (Nat.le_refl _)))
    have HS0 := hid (And.intro HB.out.size zA)
    have HR1 := hid (r1.below HBA.out (Nat.le_refl _))
    have HR2 := hid (r2.below HBA.out (Nat.le_refl _))
    clear bx0 r1 r2 hn1 hn2 bA zA HO HT HB
    go_wp2_with fail
    clear x0 x1 x2 x3 x4 x5 x6 x7
    refine (impl_copiedTrack xi be en al inn ou c1 c2 HR1.out HN.out.1 HSM.out.1 HR2.out HN.out.2 HSM.out.2 ln1 ln2).mono ?_
    rintro e w1 ⟨q1, d1, q2, d2, xs, ys, rfl, oT, b1⟩
    have hs0 := HS0.out
    have hs1 := b1.size
    have bB := Below.alloc1 w1 (.cells #[.int .i64 xi, .int .i64 be, .int .i64 en, .bool al, .slice q1 n1 d1, .slice q2 n2 d2, .bool inn, .bool ou] 52)
    have zB := alloc_size w1 (.cells #[.int .i64 xi, .int .i64 be, .int .i64 en, .bool al, .slice q1 n1 d1, .slice q2 n2 d2, .bool inn, .bool ou] 52)
    have HN1 := hid (heap_alloc_new w1 (.cells #[.int .i64 xi, .int .i64 be, .int .i64 en, .bool al, .slice q1 n1 d1, .slice q2 n2 d2, .bool inn, .bool ou] 52))
    have HOB := hid (owns_below bB (Nat.le_refl _) (owns_below b1 (Nat.le_refl _) HOA.out))
    have HTB := hid ((HTA.out.agree (Agree.below b1 (by omega))).agree (Agree.below bB (by omega)))
    have HOT := hid (oT.agree (Agree.below bB (Nat.le_refl _)))
    have HBB := hid ((HBA.out.trans (b1.mono HBA.out.size)).trans (bB.mono (by omega)))
    have HSS := hid (show w.heap.size ≤ wr.heap.size ∧ (wr.alloc (.cells #[.int .i64 xi, .int .i64 be, .int .i64 en, .bool al, .slice a1 n1 c1, .slice a2 n2 c2, .bool inn, .bool ou] 52)).heap.size = wr.heap.size + 1 ∧ wr.heap.size + 1 ≤ w1.heap.size ∧ (w1.alloc (.cells #[.int .i64 xi, .int .i64 be, .int .i64 en, .bool al, .slice q1 n1 d1, .slice q2 n2 d2, .bool inn, .bool ou] 52)).heap.size = w1.heap.size + 1 from ⟨hs0.1, hs0.2, by omega, zB⟩)
    clear oT b1 bB zB hs0 hs1 HOA HTA HBA
    go_wp2_with (at_builtin; refine wpList_append_row rfl _ _ 29 rfl w.heap.size 52 i0 (.agg #[.int .i64 0, .int .i64 0, .int .i64 0, .bool false, .slice none 0 0, .slice none 0 0, .bool false, .bool false]) 8 88 Tryz.underlying29 hi hz0 hz1 hz2 rfl (by decide) _ k (cellsT (ts.take k) ms) rfl HOB.out (some ⟨w1.heap.size, 0, none⟩) 1 1 [.int .i64 xi, .int .i64 be, .int .i64 en, .bool al, .slice q1 n1 d1, .slice q2 n2 d2, .bool inn, .bool ou] rfl rfl (.inr ⟨_, rfl, World.news_of_block HN1.out⟩) (fun e => by cases e) ?m1 ?m2 ?m3 ?m4 ?_)
    case m1 => intro z hz; simp only [List.mem_cons, List.not_mem_nil, or_false] at hz; rcases hz with rfl | rfl | rfl | rfl | rfl | rfl | rfl | rfl <;> rfl
    case m2 => unfold maxLen; omega
    case m3 => omega
    case m4 => have := HSS.out; omega
    intro a5 c5 w5 o5 g5
    have hss := HSS.out
    have BT := (HTB.out.snoc (hi := (w1.alloc (.cells #[.int .i64 xi, .int .i64 be, .int .i64 en, .bool al, .slice q1 n1 d1, .slice q2 n2 d2, .bool inn, .bool ou] 52)).heap.size) (by omega) (by omega) (HOT.out.mono (by omega) (by omega))).beside HOB.out g5
    have hml := HTB.out.len
    have N1 := hid (show w5.ownsRow w.heap.size 52 8 (.slice a5 (k + 1) c5) (k + 1) (cellsT (ts.take (k + 1)) (ms ++ [⟨.slice q1 n1 d1, xs, .slice q2 n2 d2, ys⟩])) by
     rw [HTk.out, cellsT_app _ _ _ _ hml]
     exact o5)
    have N2 := hid (show BandsT w5 w.heap.size w5.heap.size (ms ++ [⟨.slice q1 n1 d1, xs, .slice q2 n2 d2, ys⟩]) (ts.take (k + 1)) by
     rw [HTk.out]
     exact BT.mono (Nat.le_refl _) g5.size)
    have N3 := hid (HBB.out.grown g5 HBB.out.size (fun r e => (HOB.out.lt r e).1))
    clear hss BT hml o5 g5 HOB HTB HOT HBB HN1
    go_wp2_with fail
    go_roundw
    case rel => exact ⟨k + 1, a5, c5, _, by omega, by go_num, rfl, N1, N2, N3⟩
    case measure => simp [intOf]; omega
  · have hlt' : ¬ (k : Int) < (n : Int) := by omega
    have hkn : k = n := by omega
    subst hkn
    go_wp2_with fail
    go_ret
    have e1 := HO.out
    have e2 := HT.out
    rw [List.take_of_length_le (by omega)] at e1 e2
    exact ⟨_, rfl, e2.t (by rw [hl]; exact e1) (fun g hg => (HO.out.lt g hg).2), HB.out⟩
end Go.Proofs.YtnhlfkffllbpiaaGreat
