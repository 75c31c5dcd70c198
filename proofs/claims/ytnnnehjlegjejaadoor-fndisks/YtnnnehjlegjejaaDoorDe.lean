/- The contracts of the laws' eqByteSS, eqWrite, eqWriteS, eqDisk at disks that read alike: they are told alike. Conditions: byte rows of at most 2^21. -/
import Derived.Test.YtnnnehjlegjejaaDoorDm
import Derived.Test.YtnnnehjlegjejaaDoorAl
import Derived.Deep.RegionHeld3
namespace Go.Proofs.YtnnnehjlegjejaaDoor
open Go.RowKit

set_option maxRecDepth 100000 in
set_option maxHeartbeats 1600000 in
theorem eqByteSS {ad ad' : Option Addr} {n : Nat} (cap cap' : Nat) {ss : List (List Int)} {w : World} (h : ReadsS w ad ss) (h' : ReadsS w ad' ss) (hl : ss.length = n) (hn : n ≤ 2097152) (hb : ∀ i, (ss.getD i []).length ≤ 2097152) :
    Calls Tryd.prog 49 #[.slice ad n cap, .slice ad' n cap'] w fun e w' => e = .returned (.bool true) ∧ Still w w' := by
  go_enter Tryd.func49, Tryd.ntmps49
  go_wp2
  go_loopw [5] (fun i wr => ∃ k : Nat, k ≤ n ∧ i = .int .i64 k ∧ Hid (Still w wr)) (fun i _ => n - (intOf i).toNat)
  case atStart => exact ⟨0, Nat.zero_le _, rfl, hid (Still.refl _)⟩
  case round =>
    obtain ⟨k, hk, rfl, hS⟩ := hrel
    by_cases hlt : k < n
    · have hlt' : (k : Int) < (n : Int) := by omega
      have hk0 : (0 : Int) ≤ (k : Int) := by omega
      rcases h.cells with h0 | ⟨b, off, rfl, hc⟩
      · omega
      rcases h'.cells with h0 | ⟨b', off', rfl, hc'⟩
      · omega
      obtain ⟨v, hcx0, a, c, rfl, hr0, _, _⟩ := hc k (by omega)
      obtain ⟨v', hcy0, a', c', rfl, hr0', _, _⟩ := hc' k (by omega)
      have hcx := (hS.out.cell _).trans hcx0
      have hcy := (hS.out.cell _).trans hcy0
      have hr := hid (hS.out.reads hr0)
      have hr' := hid (hS.out.reads hr0')
      have hlen := hb k
      generalize ss.getD k [] = zs at *
      obtain ⟨m, hm⟩ : ∃ m, zs.length = m := ⟨_, rfl⟩
      rw [hm] at hcx hcy hlen hr hr'
      clear hc hc' hcx0 hcy0 hr0 hr0' hm
      go_wp2
      go_region_held3 (fun W => W.cell? ⟨b, off + k, none⟩ = some (.slice a m c) ∧ W.cell? ⟨b', off' + k, none⟩ = some (.slice a' m c')) (first | exact ⟨k0, k1⟩ | exact ⟨by simpa using hcx, by simpa using hcy⟩)
        (first
        | (go_at_call 24; refine (eqByteS_any c c' ((Still.drewN wr _).reads hr.out) ((Still.drewN wr _).reads hr'.out) (by omega)).mono ?_; rintro e u ⟨rfl, st⟩; have k0 := (st.cell _).trans ((Still.cell (Still.drewN wr _) _).trans hcx); have k1 := (st.cell _).trans ((Still.cell (Still.drewN wr _) _).trans hcy)))
      have HS := hid ((hS.out.trans (Still.drewN wr _)).trans st)
      clear st k0 k1
      go_wp2
      go_roundw
      case rel => exact ⟨k + 1, by omega, by go_num, HS⟩
      case measure => simp [intOf]; omega
    · go_wp2
      go_ret
      exact ⟨rfl, hS.out⟩

set_option maxRecDepth 100000 in
set_option maxHeartbeats 1600000 in
theorem eqWrite (A : Int) {ad ad' : Option Addr} {n : Nat} (cap cap' : Nat) {zs : List Int} {w : World} (h : Reads w ad n zs) (h' : Reads w ad' n zs) (hn : n ≤ 2097152) :
    Calls Tryd.prog 66 #[.agg #[.int .i64 A, .slice ad n cap], .agg #[.int .i64 A, .slice ad' n cap']] w fun e w' => e = .returned (.bool true) ∧ Below w.heap.size w w' := by
  have hB := two w (.cells #[.int .i64 A, .slice ad n cap] 40) (.cells #[.int .i64 A, .slice ad' n cap'] 40)
  have H1 := hid (h.below hB (Nat.le_refl _))
  have H2 := hid (h'.below hB (Nat.le_refl _))
  have HB := hid hB
  clear hB h h'
  go_enter Tryd.func66, Tryd.ntmps66
  go_wp2_with fail
  refine (eqByteS_any cap cap' H1.out H2.out hn).mono ?_
  rintro e w2 ⟨rfl, st⟩
  go_wp2_with fail
  go_ret
  exact ⟨rfl, HB.out.trans (st.below _)⟩

set_option maxRecDepth 100000 in
set_option maxHeartbeats 1600000 in
theorem eqWriteS {ad ad' : Option Addr} {n : Nat} (cap cap' : Nat) {ws : List (Int × List Int)} {w : World} (h : ReadsW w ad ws) (h' : ReadsW w ad' ws) (hl : ws.length = n) (hn : n ≤ 2097152) (hb : ∀ i, (ws.getD i w0).2.length ≤ 2097152) :
    Calls Tryd.prog 50 #[.slice ad n cap, .slice ad' n cap'] w fun e w' => e = .returned (.bool true) ∧ Below w.heap.size w w' := by
  go_enter Tryd.func50, Tryd.ntmps50
  go_wp2
  go_loopw [5] (fun i wr => ∃ k : Nat, k ≤ n ∧ i = .int .i64 k ∧ Hid (Below w.heap.size w wr)) (fun i _ => n - (intOf i).toNat)
  case atStart => exact ⟨0, Nat.zero_le _, rfl, hid (Below.refl _ _)⟩
  case round =>
    obtain ⟨k, hk, rfl, hS⟩ := hrel
    by_cases hlt : k < n
    · have hlt' : (k : Int) < (n : Int) := by omega
      have hk0 : (0 : Int) ≤ (k : Int) := by omega
      rcases h.cells with h0 | ⟨b, off, rfl, hc⟩
      · omega
      rcases h'.cells with h0 | ⟨b', off', rfl, hc'⟩
      · omega
      obtain ⟨hca0, v, hcx0, a, c, rfl, hr0, _, _⟩ := hc k (by omega)
      obtain ⟨hcb0, v', hcy0, a', c', rfl, hr0', _, _⟩ := hc' k (by omega)
      have bl := World.block_lt_of_cell? w _ hca0
      have bl' := World.block_lt_of_cell? w _ hcb0
      have hca := (hS.out.cell (p := ⟨b, off + k * 2, none⟩) bl).trans hca0
      have hcx := (hS.out.cell (p := ⟨b, off + k * 2 + 1, none⟩) bl).trans hcx0
      have hcb := (hS.out.cell (p := ⟨b', off' + k * 2, none⟩) bl').trans hcb0
      have hcy := (hS.out.cell (p := ⟨b', off' + k * 2 + 1, none⟩) bl').trans hcy0
      have hr := hid (hr0.below hS.out (Nat.le_refl _))
      have hr' := hid (hr0'.below hS.out (Nat.le_refl _))
      have hlen := hb k
      generalize ws.getD k w0 = p at *
      obtain ⟨A, zs⟩ := p
      obtain ⟨m, hm⟩ : ∃ m, zs.length = m := ⟨_, rfl⟩
      simp only at hca hcx hcb hcy hlen hr hr'
      rw [hm] at hcx hcy hlen hr hr'
      have BL := hid (show b < wr.heap.size from Nat.lt_of_lt_of_le bl hS.out.size)
      have BL' := hid (show b' < wr.heap.size from Nat.lt_of_lt_of_le bl' hS.out.size)
      clear hc hc' hcx0 hcy0 hr0 hr0' hm hca0 hcb0 bl bl'
      go_wp2
      go_region_held3 (fun W => W.cell? ⟨b, off + k * 2, none⟩ = some (.int .i64 A) ∧ W.cell? ⟨b, off + k * 2 + 1, none⟩ = some (.slice a m c) ∧ W.cell? ⟨b', off' + k * 2, none⟩ = some (.int .i64 A) ∧ W.cell? ⟨b', off' + k * 2 + 1, none⟩ = some (.slice a' m c')) (first | exact ⟨k0, k1, k2, k3⟩ | exact ⟨by simpa using hca, by simpa using hcx, by simpa using hcb, by simpa using hcy⟩)
        (first
        | (go_at_call 66; refine (eqWrite A c c' ((Still.drewN wr _).reads hr.out) ((Still.drewN wr _).reads hr'.out) (by omega)).mono ?_; rintro e u ⟨rfl, b1⟩; have B0 := (Below.drewN (B := wr.heap.size) wr _).trans b1; have k0 := (B0.cell (p := ⟨b, off + k * 2, none⟩) BL.out).trans hca; have k1 := (B0.cell (p := ⟨b, off + k * 2 + 1, none⟩) BL.out).trans hcx; have k2 := (B0.cell (p := ⟨b', off' + k * 2, none⟩) BL'.out).trans hcb; have k3 := (B0.cell (p := ⟨b', off' + k * 2 + 1, none⟩) BL'.out).trans hcy))
      have HS := hid (hS.out.trans (B0.mono hS.out.size))
      clear b1 B0 k0 k1 k2 k3
      go_wp2
      go_roundw
      case rel => exact ⟨k + 1, by omega, by go_num, HS⟩
      case measure => simp [intOf]; omega
    · go_wp2
      go_ret
      exact ⟨rfl, hS.out⟩

set_option maxRecDepth 100000 in
set_option maxHeartbeats 1600000 in
theorem eqDisk {aS aW aS' aW' : Option Addr} {nS nW : Nat} (cS cW cS' cW' : Nat) {ss : List (List Int)} {ws : List (Int × List Int)} (F : Int) (D : Bool) {w : World} (h : ReadsD w aS aW ss ws) (h' : ReadsD w aS' aW' ss ws) (lS : ss.length = nS) (lW : ws.length = nW) (hS : nS ≤ 2097152) (hW : nW ≤ 2097152)
    (hbS : ∀ i, (ss.getD i []).length ≤ 2097152) (hbW : ∀ i, (ws.getD i w0).2.length ≤ 2097152) :
    Calls Tryd.prog 23 #[.agg #[.slice aS nS cS, .slice aW nW cW, .int .i64 F, .bool D], .agg #[.slice aS' nS cS', .slice aW' nW cW', .int .i64 F, .bool D]] w fun e w' => e = .returned (.bool true) ∧ Below w.heap.size w w' := by
  have hq : (D != D) = false := by cases D <;> rfl
  have hB := two w (.cells #[.slice aS nS cS, .slice aW nW cW, .int .i64 F, .bool D] 27) (.cells #[.slice aS' nS cS', .slice aW' nW cW', .int .i64 F, .bool D] 27)
  have X0 := heap_alloc_new w (.cells #[.slice aS nS cS, .slice aW nW cW, .int .i64 F, .bool D] 27)
  have X1 := heap_alloc_new (w.alloc (.cells #[.slice aS nS cS, .slice aW nW cW, .int .i64 F, .bool D] 27)) (.cells #[.slice aS' nS cS', .slice aW' nW cW', .int .i64 F, .bool D] 27)
  rw [alloc_size] at X1
  have X2 := (alloc_old _ (.cells #[.slice aS' nS cS', .slice aW' nW cW', .int .i64 F, .bool D] 27) w.heap.size (by simp)).trans X0
  have z : ((w.alloc (.cells #[.slice aS nS cS, .slice aW nW cW, .int .i64 F, .bool D] 27)).alloc (.cells #[.slice aS' nS cS', .slice aW' nW cW', .int .i64 F, .bool D] 27)).heap.size = w.heap.size + 2 := by simp
  have H1 := h.below hB (Nat.le_refl _)
  have H2 := h'.below hB (Nat.le_refl _)
  go_enter Tryd.func23, Tryd.ntmps23
  go_wp2_with fail
  generalize (w.alloc (.cells #[.slice aS nS cS, .slice aW nW cW, .int .i64 F, .bool D] 27)).alloc (.cells #[.slice aS' nS cS', .slice aW' nW cW', .int .i64 F, .bool D] 27) = W at *
  refine (eqByteSS cS cS' H1.s H2.s lS hS hbS).mono ?_
  rintro e W1 ⟨rfl, st⟩
  have b1 := st.below W.heap.size
  have Y0 := (b1.block _ (by omega)).trans X2
  have Y1 := (b1.block _ (by omega)).trans X1
  have c1 : W1.cell? ⟨w.heap.size, 1, none⟩ = some (.slice aW nW cW) := by rw [cell_of_row _ _ _ _ _ _ Y0]; rfl
  have d1 : W1.cell? ⟨w.heap.size + 1, 1, none⟩ = some (.slice aW' nW cW') := by rw [cell_of_row _ _ _ _ _ _ Y1]; rfl
  have HY := hid (And.intro Y0 (And.intro Y1 (And.intro z b1.size)))
  have HB := hid (hB.trans (b1.mono hB.size))
  have G1 := hid (H1.w.below b1 (Nat.le_refl _))
  have G2 := hid (H2.w.below b1 (Nat.le_refl _))
  clear X0 X1 X2 H1 H2 st b1 Y0 Y1 z hB h h'
  go_wp2_with fail
  refine (eqWriteS cW cW' G1.out G2.out lW hW hbW).mono ?_
  rintro e W2 ⟨rfl, b2⟩
  obtain ⟨Y0, Y1, z, zz⟩ := HY.out
  have Z0 := (b2.block _ (by omega)).trans Y0
  have Z1 := (b2.block _ (by omega)).trans Y1
  have c2 : W2.cell? ⟨w.heap.size, 2, none⟩ = some (.int .i64 F) := by rw [cell_of_row _ _ _ _ _ _ Z0]; rfl
  have d2 : W2.cell? ⟨w.heap.size + 1, 2, none⟩ = some (.int .i64 F) := by rw [cell_of_row _ _ _ _ _ _ Z1]; rfl
  have c3 : W2.cell? ⟨w.heap.size, 3, none⟩ = some (.bool D) := by rw [cell_of_row _ _ _ _ _ _ Z0]; rfl
  have d3 : W2.cell? ⟨w.heap.size + 1, 3, none⟩ = some (.bool D) := by rw [cell_of_row _ _ _ _ _ _ Z1]; rfl
  have HB2 := hid (HB.out.trans (b2.mono HB.out.size))
  clear Y0 Y1 z zz Z0 Z1 HY G1 G2 b2 c1 d1
  go_wp2_with fail
  go_ret
  exact ⟨rfl, HB2.out⟩
end Go.Proofs.YtnnnehjlegjejaaDoor
