/- Bytes held against bytes as strings; the contract of bytes.Equal. No conditions. -/
import Derived.Test.YtoppccfgcccijaaDoorMga
namespace Go.Proofs.YtoppccfgcccijaaDoor
open Go.RowKit
set_option maxRecDepth 100000

theorem str_inj7 : ∀ (a b : List Int), (∀ i, 0 ≤ a.getD i 0 ∧ a.getD i 0 ≤ 255) → (∀ i, 0 ≤ b.getD i 0 ∧ b.getD i 0 ≤ 255) → a.map (fun n : Int => UInt8.ofNat n.toNat) = b.map (fun n : Int => UInt8.ofNat n.toNat) → a = b
  | [], [], _, _, _ => rfl
  | [], _ :: _, _, _, h => by simp at h
  | _ :: _, [], _, _, h => by simp at h
  | x :: xs, y :: ys, ha, hb, h => by
    simp only [List.map_cons, List.cons.injEq] at h
    have hx : 0 ≤ x ∧ x ≤ 255 := ha 0
    have hy : 0 ≤ y ∧ y ≤ 255 := hb 0
    have e := h.1
    rw [← UInt8.toNat_inj, UInt8.toNat_ofNat', UInt8.toNat_ofNat'] at e
    have : x = y := by omega
    subst this
    rw [str_inj7 xs ys (fun i => ha (i + 1)) (fun i => hb (i + 1)) h.2]
theorem str_eq7 {a b : List Int} (ha : ∀ i, 0 ≤ a.getD i 0 ∧ a.getD i 0 ≤ 255) (hb : ∀ i, 0 ≤ b.getD i 0 ∧ b.getD i 0 ≤ 255) : ((str a).toList == (str b).toList) = decide (a = b) := by
  rw [ByteArray.toList_eq, ByteArray.toList_eq]
  by_cases h : a = b
  · subst h; simp
  · rw [decide_eq_false h, beq_eq_false_iff_ne]
    intro e
    exact h (str_inj7 a b ha hb (by simpa [str] using e))

set_option maxHeartbeats 1600000 in
theorem bytes_equal {a b : Option Addr} {n m : Nat} (c d : Nat) {zs ys : List Int} {w : World} (h : Reads w a n zs) (h2 : Reads w b m ys) :
    Calls Tryd.prog 39 #[.slice a n c, .slice b m d] w fun e w' => e = .returned (.bool (decide (zs = ys))) ∧ w' = w := by
  have s1 := h.str c 23 Tryd.underlying23 Tryd.underlying5 Tryd.underlying9
  have s2 := h2.str d 23 Tryd.underlying23 Tryd.underlying5 Tryd.underlying9
  have E := hid (str_eq7 h.bd h2.bd)
  clear h h2
  go_enter Tryd.func39, Tryd.ntmps39
  go_wp2_with fail
  go_ret
  exact ⟨by rw [← E.out]; rfl, rfl⟩
end Go.Proofs.YtoppccfgcccijaaDoor
