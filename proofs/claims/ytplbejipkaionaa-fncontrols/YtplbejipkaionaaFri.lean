/- The contract of the program's Frame. For bodies of at most 2^21 bytes. -/
import Derived.Test.YtplbejipkaionaaFrm
import Derived.Deep.RegionHeld3
import Derived.Laws.CopyOwn
namespace Go.Proofs.Ytplbejipkaionaa
set_option maxRecDepth 100000
open Go.RowKit

def zer (m : Nat) : List Value := List.replicate m (Value.int .u8 0)
theorem zer_drop (m k : Nat) : (zer m).drop k = zer (m - k) := by simp [zer]
theorem splice_end (A : List Value) (m : Nat) (cs : List Value) : splice (A ++ zer m) A.length cs = (A ++ cs) ++ zer (m - cs.length) := by
  unfold splice
  rw [List.take_left, List.drop_append, List.drop_eq_nil_of_le (by omega), Nat.add_sub_cancel_left, zer_drop]; simp
theorem own_block {w : World} {base g n : Nat} {xs : List Value} (h : w.ownsRow base 5 1 (.slice (some ⟨g, 0, none⟩) n n) n xs) : w.heap[g]? = some (.cells xs.toArray 5 (0, 0)) := by
  rcases h.2 with ⟨h', _⟩ | ⟨g', cap', cur, h', hb, hg, hnc, hcm, hcs, htake⟩
  · simp at h'
  · simp only [Value.slice.injEq, Option.some.injEq, Addr.mk.injEq, and_true, true_and] at h'
    obtain ⟨rfl, rfl⟩ := h'
    rw [hg, ← htake, List.take_of_length_le (by simp; omega)]

theorem size5 : (Try.prog.info? 5).map (·.size) = some 1 := by kernel_rfl
/-- copy into a row of the call's own: its run, written out. -/
theorem copy_in {w w0 : World} {g off B n : Nat} {cur : List Value} (hg : w.heap[g]? = some (.cells cur.toArray 5 (0, 0))) {ad dp : Option Addr} {zs : List Int} (hr : Reads w ad n zs)
    (hdp : 0 < n → dp = some ⟨g, off, none⟩) (hfit : off + n ≤ cur.length) (hb : Below B w0 w) (hBg : B ≤ g) (dCap sCap : Nat) :
    ∃ w', (Builtin.copy_ #[22, 22] 3 #[.slice dp n dCap, .slice ad n sCap]).run Try.prog w = .ok (goInt n) w' ∧ Hid (w'.heap[g]? = some (.cells (splice cur off (bys zs)).toArray 5 (0, 0))) ∧ Below B w0 w' ∧ w'.heap.size = w.heap.size := by
  have hl : (bys zs).length = n := by rw [bys_length, hr.len]
  by_cases h0 : n = 0
  · subst h0
    have e : bys zs = [] := List.eq_nil_of_length_eq_zero hl
    refine ⟨w, run_copy_none (P := Try.prog) w 22 22 3 5 dp ad 0 dCap 0 sCap Try.underlying22 size5 (by simp), ?_, hb, rfl⟩
    unfold Hid; rw [e]; simpa [splice] using hg
  · obtain rfl := hdp (by omega)
    rcases hr.cells with h | ⟨b, o, rfl, hc⟩
    · exact absurd h h0
    have hrun := run_copy_row (P := Try.prog) w 22 22 3 5 g off n dCap ⟨b, o, none⟩ n sCap cur.toArray 5 (bys zs) Try.underlying22 size5 hg (by rw [hl]; simp) hr.news (by simpa [hl] using hfit) (bys_one _)
    rw [hl] at hrun
    refine ⟨_, hrun, ?_, below_setRow hb hBg _, by simp⟩
    unfold Hid splice
    rw [setRow_heap w g _ _ 5 _ hg, hl, List.append_assoc]

set_option maxRecDepth 100000 in
set_option maxHeartbeats 3200000 in
theorem impl_Frame_yes {ad : Option Addr} {n : Nat} (cap : Nat) {zs : List Int} {w : World} (h : Reads w ad n zs) (hn : n ≤ 1000) (kind : Int) (h1 : 1 ≤ kind) (h255 : kind ≤ 255) :
    Calls Try.prog 26 #[.int .i64 kind, .slice ad n cap] w fun e w' =>
      ∃ v, e = .returned v ∧ w'.ownsRow w.heap.size 5 1 v (frameL kind zs).length (bys (frameL kind zs)) ∧ Below w.heap.size w w' := by
  obtain ⟨i0, hi, hz0, hz1, hz2⟩ := info_parts Try.info5
  have hlen := h.len
  go_enter Try.func26, Try.ntmps26
  go_wp2_with (at_make; refine wpList_make_full _ rfl _ _ 22 rfl w.heap.size 5 i0 (.int .u8 0) 1 Try.underlying22 hi hz0 hz1 _ _ _ _ (n + 7) rfl rfl (by omega) (by omega) ?b2 ?b3 (Nat.le_refl _) ?_)
  case b2 => rw [hz2]; omega
  case b3 => unfold maxLen; omega
  intro w0 o0 g0
  have b0 : Below w.heap.size w w0 := (Below.refl _ _).grown g0 (Nat.le_refl _) (fun k h => by cases h)
  rw [toList_madeCells_one] at o0
  have hc0 : w0.cell? ⟨w.heap.size, 0, none⟩ = some (.int .u8 0) := by rw [o0.cellAt 0 (by omega)]; simp
  have hf0 : w0.frozen? ⟨w.heap.size, 0, none⟩ = false := o0.frozenAt 0
  have HR1 : Hid ((w0.setCell ⟨w.heap.size, 0, none⟩ (.int .u8 kind)).heap[w.heap.size]? = some (.cells (bys [kind] ++ zer (n + 6)).toArray 5 (0, 0))) := by
    have := own_block (o0.stored 0 (.int .u8 kind)).1
    unfold Hid; rw [this]; rfl
  have bb := b0.setCell (p := ⟨w.heap.size, 0, none⟩) (Nat.le_refl _) (.int .u8 kind)
  clear o0 g0
  go_wp2
  generalize w0.setCell ⟨w.heap.size, 0, none⟩ (.int .u8 kind) = wa at *
  have s1 : (3 : Int) ≤ (n : Int) + 7 := by omega
  have s2 : (3 : Int) ≤ ((n + 7 : Nat) : Int) := by omega
  have hL2 := putL_two n (by omega)
  have hbd2 := putL_bd n 2
  have HF : Hid (frameL kind zs = ([kind] ++ putL n 2 ++ zs) ++ putL (crcOf ([kind] ++ putL n 2 ++ zs)) 4) := by unfold Hid frameL headL; rw [hlen]
  have HP := hid (fun W => impl_PutNum n 2 W (by omega))
  generalize putL n 2 = L2 at *
  have zb := bb.size
  go_region_held3 (fun _ => True) (trivial) (first
    | (go_at_call 24; refine (HP.out _).mono ?_; rintro e wb ⟨v2, rfl, o2, b2⟩; rw [hL2] at o2; obtain ⟨ad2, cap2, rfl, r2, d2⟩ := Reads.own o2 hbd2; obtain ⟨wc, hcp, HRc, bc, zc⟩ := copy_in (g := w.heap.size) (off := 1) (cur := bys [kind] ++ zer (n + 6)) (dp := some ⟨w.heap.size, 1, none⟩) ((b2.block w.heap.size (by have := (Array.getElem?_eq_some_iff.1 HR1.out).1; simpa using this)).trans HR1.out) r2 (fun _ => rfl) (by simp [bys, zer]) ((below_drewN bb 1).trans (b2.mono zb)) (Nat.le_refl _) (n + 6) cap2))
  have hL2b : (bys L2).length = 2 := by rw [bys_length, hL2]
  have HR2 : Hid (wc.heap[w.heap.size]? = some (.cells (bys ([kind] ++ L2) ++ zer (n + 4)).toArray 5 (0, 0))) := by
    have e := splice_end (bys [kind]) (n + 6) (bys L2)
    rw [hL2b, show n + 6 - 2 = n + 4 by omega, ← bys_append, show (bys [kind]).length = 1 from rfl] at e
    unfold Hid; rw [← e]; exact HRc.out
  have r3 := h.below bc (Nat.le_refl _)
  have hAl : (bys ([kind] ++ L2)).length = 3 := by rw [bys_length, List.length_append, hL2]; rfl
  obtain ⟨wd, hcp3, HRd, bd, zd⟩ := copy_in (g := w.heap.size) (off := 3) (dp := some ⟨w.heap.size, 3, none⟩) HR2.out r3 (fun _ => rfl) (by rw [List.length_append, hAl]; simp [zer]) bc (Nat.le_refl _) (n + 4) cap
  clear hcp HRc HR1 HP o2 b2 r2 d2
  go_wp2
  have hzb : (bys zs).length = n := by rw [bys_length, hlen]
  have hHl : ([kind] ++ L2 ++ zs).length = 3 + n := by simp; omega
  have hHbd := bd_append (bd_append (bd_one kind (by omega) h255) hbd2) h.bd
  have hcs := crcOf_small ([kind] ++ L2 ++ zs) (by omega) hHbd
  have HR3 : Hid (wd.heap[w.heap.size]? = some (.cells (bys ([kind] ++ L2 ++ zs) ++ zer 4).toArray 5 (0, 0))) := by
    have e := splice_end (bys ([kind] ++ L2)) (n + 4) (bys zs)
    rw [hzb, show n + 4 - n = 4 by omega, ← bys_append, hAl] at e
    unfold Hid; rw [← e]; exact HRd.out
  clear hcp3 HRd HR2 hAl hL2b hbd2 hL2 hzb r3 bc zc
  generalize [kind] ++ L2 ++ zs = H at *
  have hHb : (bys H).length = 3 + n := by rw [bys_length, hHl]
  have r8 : Reads wd.drew (some ⟨w.heap.size, 0, none⟩) (3 + n) H := by
    refine ⟨hHl, .inr ⟨w.heap.size, 0, rfl, fun i hi => ?_⟩, hHbd⟩
    rw [(Still.drew wd).cell, Nat.zero_add, cell_of_row wd _ _ _ _ _ HR3.out]
    simp only [List.getElem?_toArray]
    rw [List.getElem?_append_left (by omega)]
    simp [bys, show i < H.length by omega]
  have R8 := hid r8
  have HP := hid (fun W => impl_PutNum (crcOf H) 4 W (by omega))
  have hL4 := putL_four (crcOf H) hcs.1 hcs.2
  have hbd4 := putL_bd (crcOf H) 4
  generalize putL (crcOf H) 4 = L4 at *
  have zd := bd.size
  have s3 : (3 : Int) + (n : Int) ≤ (n : Int) + 7 := by omega
  have s4 : (0 : Int) ≤ 3 + (n : Int) := by omega
  have t1 : ((3 : Int) + (n : Int)).toNat = 3 + n := by omega
  have t2 : n + 7 - (3 + n) = 4 := by omega
  clear r8
  go_region_held3 (fun _ => True) (trivial) (first
    | (go_at_call 37; refine (impl_Crc (n + 7) R8.out (by omega)).mono ?_; rintro e we ⟨rfl, be⟩)
    | (go_at_call 24; refine (HP.out _).mono ?_; rintro e wf ⟨v4, rfl, o4, bf⟩; rw [hL4] at o4; obtain ⟨ad4, cap4, rfl, r4, d4⟩ := Reads.own o4 hbd4; obtain ⟨wg, hcp, HRg, bg, zg⟩ := copy_in (g := w.heap.size) (off := 3 + n) (cur := bys H ++ zer 4) (dp := some ⟨w.heap.size, 3 + n, none⟩) ((bf.block w.heap.size (by have := be.size; have := (Array.getElem?_eq_some_iff.1 HR3.out).1; simp at *; omega)).trans ((be.block w.heap.size (by have := (Array.getElem?_eq_some_iff.1 HR3.out).1; simpa using this)).trans HR3.out)) r4 (fun _ => rfl) (by rw [List.length_append, hHb]; simp [zer]) (((below_drewN bd 1).trans (be.mono zd)).trans (bf.mono (Nat.le_trans zd be.size))) (Nat.le_refl _) 4 cap4))
  have hL4b : (bys L4).length = 4 := by rw [bys_length, hL4]
  have HR4 : Hid (wg.heap[w.heap.size]? = some (.cells (bys (H ++ L4)).toArray 5 (0, 0))) := by
    have e := splice_end (bys H) 4 (bys L4)
    rw [hL4b, hHb, ← bys_append] at e
    have e0 : zer (4 - 4) = [] := rfl
    rw [e0, List.append_nil] at e
    unfold Hid; rw [← e]; exact HRg.out
  clear hcp HRg HR3 R8 HP
  go_wp2
  go_ret
  have hFl : (frameL kind zs).length = n + 7 := by rw [HF.out, List.length_append, hHl, hL4]; omega
  refine ⟨_, rfl, ⟨by rw [bys_length]; omega, .inr ⟨w.heap.size, n + 7, _, by rw [hFl]; rfl, Nat.le_refl _, HR4.out, by omega, by unfold maxLen; omega, ?_, ?_⟩⟩, bg⟩
  · simp [bys_length, hHl, hL4]; omega
  · rw [HF.out]; exact List.take_of_length_le (by simp [bys_length])

theorem impl_Frame_no (ad : Option Addr) (n cap : Nat) (kind : Int) (w : World) (hn : n ≤ 2097152) (h : ¬ (1 ≤ kind ∧ kind ≤ 255 ∧ n ≤ 1000)) :
    Calls Try.prog 26 #[.int .i64 kind, .slice ad n cap] w fun e w' => e = .returned (.slice none 0 0) ∧ w' = w := by
  by_cases a1 : kind < 1
  · go_enter Try.func26, Try.ntmps26
    go_wp2
    go_ret
    exact ⟨rfl, rfl⟩
  by_cases a2 : 255 < kind
  · go_enter Try.func26, Try.ntmps26
    go_wp2
    go_ret
    exact ⟨rfl, rfl⟩
  have a3 : 1000 < n := by omega
  go_enter Try.func26, Try.ntmps26
  go_wp2
  go_ret
  exact ⟨rfl, rfl⟩

theorem impl_Frame {ad : Option Addr} {n : Nat} (cap : Nat) {zs : List Int} {w : World} (h : Reads w ad n zs) (hn : n ≤ 2097152) (kind : Int) :
    Calls Try.prog 26 #[.int .i64 kind, .slice ad n cap] w fun e w' =>
      ∃ v, e = .returned v ∧ w'.ownsRow w.heap.size 5 1 v (frameOf kind zs).length (bys (frameOf kind zs)) ∧ Below w.heap.size w w' := by
  by_cases hc : 1 ≤ kind ∧ kind ≤ 255 ∧ n ≤ 1000
  · rw [frameOf_yes kind zs (by rw [h.len]; exact hc)]
    exact impl_Frame_yes cap h hc.2.2 kind hc.1 hc.2.1
  · rw [frameOf_no kind zs (by rw [h.len]; exact hc)]
    refine (impl_Frame_no ad n cap kind w hn hc).mono fun e w' ⟨he, hw⟩ => ?_
    subst hw
    exact ⟨_, he, World.ownsRow_nil _ _ _ _, Below.refl _ _⟩
end Go.Proofs.Ytplbejipkaionaa
