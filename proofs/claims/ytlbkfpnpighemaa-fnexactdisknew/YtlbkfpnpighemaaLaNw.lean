/- FnExactDiskNew's walk. -/
import Derived.Test.YtlbkfpnpighemaaDn2
import Derived.Test.YtlbkfpnpighemaaDh
import Derived.Test.YtlbkfpnpighemaaDa
namespace Go.Proofs.Ytlbkfpnpighemaa
open Go.RowKit

theorem newD_bd (n : Int) : (newD n).S.length ≤ 512 ∧ tot (newD n).S ≤ 32768 ∧ ∀ i, ((newD n).S.getD i []).length ≤ 64 := by
  have h1 : (newD n).S.length ≤ 512 := by
    unfold newD
    split
    · simp; omega
    · simp [z0]
  have h2 : ∀ i, ((newD n).S.getD i []).length ≤ 64 := by
    intro i
    unfold newD
    split
    · rw [List.getD_eq_getElem?_getD, List.getElem?_replicate]
      split <;> simp
    · simp [z0]
  refine ⟨h1, ?_, h2⟩
  have := tot_le (m := 64) (newD n).S (fun i _ => h2 i)
  omega

set_option maxRecDepth 100000 in
set_option maxHeartbeats 12800000 in
theorem exactDiskNew (n : Int) (w : World) :
    Calls Try.prog 4 #[.int .i64 n] w fun e w' => e = .returned (.bool true) ∧ Below w.heap.size w w' := by
  obtain ⟨b1, b2, b3⟩ := newD_bd n
  have hs := fun w => spec_New n w
  have hi := fun w => impl_New n w
  obtain ⟨F, hF⟩ : ∃ F, (newD n).F = F := ⟨_, rfl⟩
  obtain ⟨D, hD⟩ : ∃ D, (newD n).D = D := ⟨_, rfl⟩
  generalize (newD n).S = ss at *
  rw [hF, hD] at hs hi
  have HS := hid hs
  have HI := hid hi
  have HB3 := hid (fun i => Nat.le_trans (b3 i) (show 64 ≤ 2097152 by omega))
  have HB := hid (Below.refl w.heap.size w)
  clear hs hi hF hD b3
  go_enter Try.func4, Try.ntmps4
  go_wp2_with fail
  refine (HS.out _).mono ?_
  rintro e w1 ⟨aQ, nS, cQ, rfl, lS, _, o, b⟩
  have hnS : nS ≤ 512 := by omega
  have LS := hid lS
  clear lS
  have P := hid o
  replace HB := hid (HB.out.trans (b.mono HB.out.size))
  clear o b
  go_wp2_with fail
  have HQ := hid (OwnB.new (nS := nS) (cS := cQ) (nW := 0) (cW := 0) F D P.out 36 w1.heap.size rfl)
  replace HB := hid (HB.out.trans ((Below.alloc1 w1 (.cells #[.slice aQ nS cQ, .slice none 0 0, .int .i64 F, .bool D] 36)).mono HB.out.size))
  generalize w1.alloc (.cells #[.slice aQ nS cQ, .slice none 0 0, .int .i64 F, .bool D] 36) = t0 at *
  generalize w1.heap.size = GQ at *
  clear P
  have QT := hid (show GQ < t0.heap.size from HQ.out.lt)
  have TA := hid (show w.heap.size ≤ t0.heap.size from HB.out.size)
  refine (HI.out _).mono ?_
  rintro e w2 ⟨aG, nG, cG, rfl, lG, _, o, b⟩
  obtain rfl : nS = nG := LS.out.symm.trans lG
  have P := hid o
  have TG := hid b.size
  replace HQ := hid (HQ.out.below b (Nat.le_refl _))
  replace HB := hid (HB.out.trans (b.mono HB.out.size))
  clear o b lG
  obtain ⟨y00, y01, y02, y03⟩ := (HQ.out.alloc (.cells #[.slice aG nS cG, .slice none 0 0, .int .i64 F, .bool D] 36)).box
  go_wp2_with fail
  clear y00 y01 y02 y03
  have HG := hid (OwnB.new (nS := nS) (cS := cG) (nW := 0) (cW := 0) F D P.out 36 w2.heap.size rfl)
  replace HQ := hid (HQ.out.alloc (.cells #[.slice aG nS cG, .slice none 0 0, .int .i64 F, .bool D] 36))
  replace HB := hid (HB.out.trans ((Below.alloc1 w2 (.cells #[.slice aG nS cG, .slice none 0 0, .int .i64 F, .bool D] 36)).mono HB.out.size))
  generalize w2.alloc (.cells #[.slice aG nS cG, .slice none 0 0, .int .i64 F, .bool D] 36) = t1 at *
  generalize w2.heap.size = GG at *
  clear P
  generalize t0.heap.size = T at *
  refine (eqDisk cG 0 cQ 0 F D HG.out.reads HQ.out.reads LS.out rfl (by omega) (Nat.zero_le _) HB3.out (fun i => by simp [w0])).mono ?_
  rintro e w3 ⟨rfl, b⟩
  replace HQ := hid (HQ.out.below b (Nat.le_refl _))
  replace HG := hid (HG.out.below b (Nat.le_refl _))
  replace HB := hid (HB.out.trans (b.mono HB.out.size))
  clear b
  obtain ⟨y00, y01, y02, y03⟩ := HG.out.box
  go_wp2_with fail
  clear y00 y01 y02 y03
  refine (markDisk cG 0 F D 1 HG.out.own (Nat.le_of_lt HG.out.lt) LS.out rfl (by omega) (Nat.zero_le _) (by omega) (by simp [tw, totW, tot]) (by omega) (by omega)).mono ?_
  rintro e w4 ⟨rfl, o, g⟩
  replace HB := hid (HB.out.trans ((g.below (Nat.le_trans TG.out (Nat.le_of_lt HG.out.lt))).mono TA.out))
  replace HQ := hid (HQ.out.within g (.inr QT.out))
  replace HG := hid (HG.out.self g o)
  clear o g
  have hk : ¬ (1 + (tot ss : Int) + (tw [] : Int)) < 0 := by omega
  have hk5 : (1 + (tot ss : Int) + (tw [] : Int) != 1 + (tot ss : Int) + (tw [] : Int)) = false := by simp
  obtain ⟨y00, y01, y02, y03⟩ := HG.out.box
  go_wp2_with fail
  clear y00 y01 y02 y03
  refine (heldDisk cG 0 F D 1 HG.out.reads LS.out rfl (by omega) (Nat.zero_le _) (by omega) (by simp [tw, totW, tot]) (by omega) (by omega)).mono ?_
  rintro e w5 ⟨rfl, b⟩
  replace HQ := hid (HQ.out.below b (Nat.le_refl _))
  replace HG := hid (HG.out.below b (Nat.le_refl _))
  replace HB := hid (HB.out.trans (b.mono HB.out.size))
  clear b
  go_wp2_with fail
  refine (HI.out _).mono ?_
  rintro e w6 ⟨aH, nH, cH, rfl, lH, _, o, b⟩
  obtain rfl : nS = nH := LS.out.symm.trans lH
  have P := hid o
  replace HQ := hid (HQ.out.below b (Nat.le_refl _))
  replace HG := hid (HG.out.below b (Nat.le_refl _))
  replace HB := hid (HB.out.trans (b.mono HB.out.size))
  clear o b lH
  obtain ⟨y00, y01, y02, y03⟩ := (HQ.out.alloc (.cells #[.slice aH nS cH, .slice none 0 0, .int .i64 F, .bool D] 36)).box
  go_wp2_with fail
  clear y00 y01 y02 y03
  have HH := hid (OwnB.new (nS := nS) (cS := cH) (nW := 0) (cW := 0) F D P.out 36 w6.heap.size rfl)
  replace HQ := hid (HQ.out.alloc (.cells #[.slice aH nS cH, .slice none 0 0, .int .i64 F, .bool D] 36))
  replace HG := hid (HG.out.alloc (.cells #[.slice aH nS cH, .slice none 0 0, .int .i64 F, .bool D] 36))
  replace HB := hid (HB.out.trans ((Below.alloc1 w6 (.cells #[.slice aH nS cH, .slice none 0 0, .int .i64 F, .bool D] 36)).mono HB.out.size))
  generalize w6.alloc (.cells #[.slice aH nS cH, .slice none 0 0, .int .i64 F, .bool D] 36) = t3 at *
  generalize w6.heap.size = GH at *
  clear P
  refine (eqDisk cH 0 cQ 0 F D HH.out.reads HQ.out.reads LS.out rfl (by omega) (Nat.zero_le _) HB3.out (fun i => by simp [w0])).mono ?_
  rintro e w7 ⟨rfl, b⟩
  replace HQ := hid (HQ.out.below b (Nat.le_refl _))
  replace HG := hid (HG.out.below b (Nat.le_refl _))
  replace HB := hid (HB.out.trans (b.mono HB.out.size))
  clear b
  obtain ⟨y00, y01, y02, y03⟩ := HG.out.box
  go_wp2_with fail
  clear y00 y01 y02 y03
  refine (heldDisk cG 0 F D 1 HG.out.reads LS.out rfl (by omega) (Nat.zero_le _) (by omega) (by simp [tw, totW, tot]) (by omega) (by omega)).mono ?_
  rintro e w8 ⟨rfl, b⟩
  replace HQ := hid (HQ.out.below b (Nat.le_refl _))
  replace HG := hid (HG.out.below b (Nat.le_refl _))
  replace HB := hid (HB.out.trans (b.mono HB.out.size))
  clear b
  go_wp2_with fail
  go_ret
  exact ⟨rfl, HB.out⟩
end Go.Proofs.Ytlbkfpnpighemaa
