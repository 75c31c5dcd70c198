/- The contract of the laws' eqRecordS. Conditions: at most 2^21 records of at most 2^21 bytes each. -/
import Derived.Test.YtdlddgejpcbofaaRl
import Derived.Deep.RegionHeld3
namespace Go.Proofs.Ytdlddgejpcbofaa
open Go.RowKit
set_option maxRecDepth 100000

set_option maxHeartbeats 6400000 in
theorem eqRecordS {ad ad' : Option Addr} {n : Nat} (cap cap' : Nat) {rs : List Rc} {w : World} (h : ReadsR w ad rs) (h' : ReadsR w ad' rs) (hl : rs.length = n) (hn : n ≤ 2097152) (hb : ∀ i, (rs.getD i r0).D.length ≤ 2097152) :
    Calls Try.prog 10 #[.slice ad n cap, .slice ad' n cap'] w fun e w' => e = .returned (.bool true) ∧ Below w.heap.size w w' := by
  go_enter Try.func10, Try.ntmps10
  go_wp2
  go_loopw [5] (fun i wr => ∃ k : Nat, k ≤ n ∧ i = .int .i64 k ∧ Hid (Below w.heap.size w wr)) (fun i _ => n - (intOf i).toNat)
  case atStart => exact ⟨0, Nat.zero_le _, rfl, hid (Below.refl _ _)⟩
  case round =>
    obtain ⟨k, hk, rfl, hS⟩ := hrel
    by_cases hlt : k < n
    · have hlt' : (k : Int) < (n : Int) := by omega
      have hk0 : (0 : Int) ≤ (k : Int) := by omega
      rcases h.cells with h0 | ⟨b, off, rfl, hc⟩
      · omega
      rcases h'.cells with h0 | ⟨b', off', rfl, hc'⟩
      · omega
      obtain ⟨v, x1, a, c, rfl, hr0, _, _⟩ := hc k (by omega)
      obtain ⟨v', x2, a', c', rfl, hr0', _, _⟩ := hc' k (by omega)
      obtain ⟨hc0, hc1, hc2, hc3, hc4, hc5⟩ := x1.below hS.out (Nat.le_refl _)
      obtain ⟨hd0, hd1, hd2, hd3, hd4, hd5⟩ := x2.below hS.out (Nat.le_refl _)
      have hr := hid (hr0.below hS.out (Nat.le_refl _))
      have hr' := hid (hr0'.below hS.out (Nat.le_refl _))
      have hlen := hb k
      generalize rs.getD k r0 = p at *
      obtain ⟨K, L, X, P, S, zs⟩ := p
      obtain ⟨m, hm⟩ : ∃ m, zs.length = m := ⟨_, rfl⟩
      simp only [Nat.add_zero] at hc0 hc1 hc2 hc3 hc4 hc5 hd0 hd1 hd2 hd3 hd4 hd5 hlen hr hr'
      rw [hm] at hc5 hd5 hlen hr hr'
      have BL := hid (show b < wr.heap.size from World.block_lt_of_cell? wr _ hc0)
      have BL' := hid (show b' < wr.heap.size from World.block_lt_of_cell? wr _ hd0)
      clear hc hc' hr0 hr0' hm x1 x2
      go_wp2
      go_region_held3 (fun W => W.cell? ⟨b, off + k * 6, none⟩ = some (.int .i64 K) ∧ W.cell? ⟨b, off + k * 6 + 1, none⟩ = some (.int .i64 L) ∧ W.cell? ⟨b, off + k * 6 + 2, none⟩ = some (.int .i64 X) ∧ W.cell? ⟨b, off + k * 6 + 3, none⟩ = some (.int .i64 P) ∧ W.cell? ⟨b, off + k * 6 + 4, none⟩ = some (.int .i64 S) ∧ W.cell? ⟨b, off + k * 6 + 5, none⟩ = some (.slice a m c) ∧ W.cell? ⟨b', off' + k * 6, none⟩ = some (.int .i64 K) ∧ W.cell? ⟨b', off' + k * 6 + 1, none⟩ = some (.int .i64 L) ∧ W.cell? ⟨b', off' + k * 6 + 2, none⟩ = some (.int .i64 X) ∧ W.cell? ⟨b', off' + k * 6 + 3, none⟩ = some (.int .i64 P) ∧ W.cell? ⟨b', off' + k * 6 + 4, none⟩ = some (.int .i64 S) ∧ W.cell? ⟨b', off' + k * 6 + 5, none⟩ = some (.slice a' m c')) (first | exact ⟨ka0, ka1, ka2, ka3, ka4, ka5, kb0, kb1, kb2, kb3, kb4, kb5⟩ | exact ⟨by simpa using hc0, by simpa using hc1, by simpa using hc2, by simpa using hc3, by simpa using hc4, by simpa using hc5, by simpa using hd0, by simpa using hd1, by simpa using hd2, by simpa using hd3, by simpa using hd4, by simpa using hd5⟩)
        (first
        | (go_at_call 24; refine (eqRecord K L X P S c c' ((Still.drewN wr _).reads hr.out) ((Still.drewN wr _).reads hr'.out) (by omega)).mono ?_; rintro e u ⟨rfl, b1⟩; have B0 := (Below.drewN (B := wr.heap.size) wr _).trans b1; have ka0 := (B0.cell (p := ⟨b, off + k * 6, none⟩) BL.out).trans hc0; have kb0 := (B0.cell (p := ⟨b', off' + k * 6, none⟩) BL'.out).trans hd0; have ka1 := (B0.cell (p := ⟨b, off + k * 6 + 1, none⟩) BL.out).trans hc1; have kb1 := (B0.cell (p := ⟨b', off' + k * 6 + 1, none⟩) BL'.out).trans hd1; have ka2 := (B0.cell (p := ⟨b, off + k * 6 + 2, none⟩) BL.out).trans hc2; have kb2 := (B0.cell (p := ⟨b', off' + k * 6 + 2, none⟩) BL'.out).trans hd2; have ka3 := (B0.cell (p := ⟨b, off + k * 6 + 3, none⟩) BL.out).trans hc3; have kb3 := (B0.cell (p := ⟨b', off' + k * 6 + 3, none⟩) BL'.out).trans hd3; have ka4 := (B0.cell (p := ⟨b, off + k * 6 + 4, none⟩) BL.out).trans hc4; have kb4 := (B0.cell (p := ⟨b', off' + k * 6 + 4, none⟩) BL'.out).trans hd4; have ka5 := (B0.cell (p := ⟨b, off + k * 6 + 5, none⟩) BL.out).trans hc5; have kb5 := (B0.cell (p := ⟨b', off' + k * 6 + 5, none⟩) BL'.out).trans hd5))
      have HS := hid (hS.out.trans (B0.mono hS.out.size))
      clear b1 B0 ka0 ka1 ka2 ka3 ka4 ka5 kb0 kb1 kb2 kb3 kb4 kb5
      go_wp2
      go_roundw
      case rel => exact ⟨k + 1, by omega, by go_num, HS⟩
      case measure => simp [intOf]; omega
    · go_wp2
      go_ret
      exact ⟨rfl, hS.out⟩
end Go.Proofs.Ytdlddgejpcbofaa
