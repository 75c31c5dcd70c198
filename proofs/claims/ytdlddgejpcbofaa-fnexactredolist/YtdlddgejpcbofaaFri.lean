/- The contract of the program's Frame. For bodies of at most 2^21 bytes. -/
import Derived.Test.YtdlddgejpcbofaaFrm
import Derived.Deep.RegionHeld3
import Derived.Laws.CopyOwn
namespace Go.Proofs.Ytdlddgejpcbofaa
set_option maxRecDepth 100000
open Go.RowKit

def zer (m : Nat) : List Value := List.replicate m (Value.int .u8 0)
theorem zer_drop (m k : Nat) : (zer m).drop k = zer (m - k) := by simp [zer]
theorem splice_end (A : List Value) (m : Nat) (cs : List Value) : splice (A ++ zer m) A.length cs = (A ++ cs) ++ zer (m - cs.length) := by
  unfold splice
  rw [List.take_left, List.drop_append, List.drop_eq_nil_of_le (by omega), Nat.add_sub_cancel_left, zer_drop]; simp
theorem own_block {w : World} {base g n : Nat} {xs : List Value} (h : w.ownsRow base 5 1 (.slice (some ⟨g, 0, none⟩) n n) n xs) : w.heap[g]? = some (.cells xs.toArray 5 (0, 0)) := by
  rcases h.2 with ⟨h', _⟩ | ⟨g', cap', cur, h', hb, hg, hnc, hcm, hcs, htake⟩
  · simp at h'
  · simp only [Value.slice.injEq, Option.some.injEq, Addr.mk.injEq, and_true, true_and] at h'
    obtain ⟨rfl, rfl⟩ := h'
    rw [hg, ← htake, List.take_of_length_le (by simp; omega)]

theorem size5 : (Try.prog.info? 5).map (·.size) = some 1 := by kernel_rfl
/-- copy into a row of the call's own: its run, written out. -/
theorem copy_in {w w0 : World} {g off B n : Nat} {cur : List Value} (hg : w.heap[g]? = some (.cells cur.toArray 5 (0, 0))) {ad dp : Option Addr} {zs : List Int} (hr : Reads w ad n zs)
    (hdp : 0 < n → dp = some ⟨g, off, none⟩) (hfit : off + n ≤ cur.length) (hb : Below B w0 w) (hBg : B ≤ g) (dCap sCap : Nat) :
    ∃ w', (Builtin.copy_ #[36, 36] 3 #[.slice dp n dCap, .slice ad n sCap]).run Try.prog w = .ok (goInt n) w' ∧ Hid (w'.heap[g]? = some (.cells (splice cur off (bys zs)).toArray 5 (0, 0))) ∧ Below B w0 w' ∧ w'.heap.size = w.heap.size := by
  have hl : (bys zs).length = n := by rw [bys_length, hr.len]
  by_cases h0 : n = 0
  · subst h0
    have e : bys zs = [] := List.eq_nil_of_length_eq_zero hl
    refine ⟨w, run_copy_none (P := Try.prog) w 36 36 3 5 dp ad 0 dCap 0 sCap Try.underlying36 size5 (by simp), ?_, hb, rfl⟩
    unfold Hid; rw [e]; simpa [splice] using hg
  · obtain rfl := hdp (by omega)
    rcases hr.cells with h | ⟨b, o, rfl, hc⟩
    · exact absurd h h0
    have hrun := run_copy_row (P := Try.prog) w 36 36 3 5 g off n dCap ⟨b, o, none⟩ n sCap cur.toArray 5 (bys zs) Try.underlying36 size5 hg (by rw [hl]; simp) hr.news (by simpa [hl] using hfit) (bys_one _)
    rw [hl] at hrun
    refine ⟨_, hrun, ?_, below_setRow hb hBg _, by simp⟩
    unfold Hid splice
    rw [setRow_heap w g _ _ 5 _ hg, hl, List.append_assoc]

end Go.Proofs.Ytdlddgejpcbofaa
