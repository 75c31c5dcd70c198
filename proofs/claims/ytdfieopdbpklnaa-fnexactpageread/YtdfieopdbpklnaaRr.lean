/- The contracts of a page reader's take and number: bytes from the front, or a panic where they lack. Conditions: at most 2^21 bytes. -/
import Derived.Test.YtdfieopdbpklnaaQs
import Derived.Test.YtdfieopdbpklnaaGet
import Derived.Test.YtdfieopdbpklnaaPr
namespace Go.Proofs.Ytdfieopdbpklnaa
open Go.RowKit
set_option maxRecDepth 100000

theorem reads_front {U : World} {ad : Option Addr} {m k : Nat} {zs : List Int} (h : Reads U ad m zs) (hk : k ≤ m) : Reads U ad k (zs.take k) := by
  have hl := h.len
  refine ⟨by simp; omega, ?_, fun j => ?_⟩
  · by_cases h0 : k = 0
    · exact .inl h0
    · rcases h.cells with h1 | ⟨b, off, e, hc⟩
      · omega
      · refine .inr ⟨b, off, e, fun j hj => ?_⟩
        rw [hc j (by omega)]
        congr 2
        simp [List.getD, hj]
  · have := h.bd j
    by_cases hj : j < k
    · simpa [List.getD, hj] using this
    · simp [List.getD, List.getElem?_take, hj]
theorem cut_mid {U : World} {b off m k : Nat} {zs : List Int} (h : Reads U (some ⟨b, off, none⟩) m zs) (hk : k ≤ m) : Reads U (some ⟨b, off + k, none⟩) (m - k) (zs.drop k) := by
  have := reads_cut h k (m - k) (by omega)
  rwa [List.take_of_length_le (by rw [List.length_drop, h.len]; exact Nat.le_refl _)] at this
theorem cut_end {U : World} {ad a2 : Option Addr} {m : Nat} {zs : List Int} (h : Reads U ad m zs) : Reads U a2 (m - m) (zs.drop m) :=
  ⟨by simp [h.len], .inl (by omega), by rw [List.drop_eq_nil_of_le (by rw [h.len]; exact Nat.le_refl _)]; simp⟩

/-- A page reader in its block g: what is left reads as zs. -/
structure Rd (w : World) (g b off m c : Nat) (zs : List Int) : Prop where
  row : w.heap[g]? = some (.cells #[.slice (some ⟨b, off, none⟩) m c] 92 (0, 0))
  reads : Reads w (some ⟨b, off, none⟩) m zs
  cap : m ≤ c
  top : c ≤ 9223372036854775807
  ne : b ≠ g
theorem Rd.below {w w' : World} {g b off m c : Nat} {zs : List Int} (h : Rd w g b off m c zs) {B : Nat} (hb : Below B w w') (hB : w.heap.size ≤ B) : Rd w' g b off m c zs :=
  ⟨(hb.block g (Nat.lt_of_lt_of_le (Array.getElem?_eq_some_iff.1 h.row).1 hB)).trans h.row, h.reads.below hb hB, h.cap, h.top, h.ne⟩
theorem Rd.lt {w : World} {g b off m c : Nat} {zs : List Int} (h : Rd w g b off m c zs) : g < w.heap.size := (Array.getElem?_eq_some_iff.1 h.row).1
theorem Rd.set {w : World} {g b off m c : Nat} {zs : List Int} (h : Rd w g b off m c zs) {off2 m2 c2 : Nat} {ys : List Int} (hr : ∀ U, Reads U (some ⟨b, off, none⟩) m zs → Reads U (some ⟨b, off2, none⟩) m2 ys) (hc : m2 ≤ c2) (ht : c2 ≤ c) : Rd (w.setCell ⟨g, 0, none⟩ (.slice (some ⟨b, off2, none⟩) m2 c2)) g b off2 m2 c2 ys := by
  have hg := grown_set7 w g 0 (.slice (some ⟨b, off2, none⟩) m2 c2)
  refine ⟨heap_setCell_same w g 0 _ 92 (.slice (some ⟨b, off2, none⟩) m2 c2) h.row, hr _ (h.reads.other hg (fun a e => ?_)), hc, Nat.le_trans ht h.top, h.ne⟩
  cases e
  exact fun e => h.ne (Option.some.inj e)

set_option maxHeartbeats 1600000 in
theorem take_yes {g b off m c : Nat} {zs : List Int} {w : World} (h : Rd w g b off m c zs) (k : Nat) (hk : k ≤ m) :
    Calls Try.prog 80 #[.pointer (some ⟨g, 0, none⟩), .int .i64 (k : Int)] w fun e w' => e = .returned (.slice (some ⟨b, off, none⟩) k c) ∧ w.grownBy w' (some g) ∧ ∃ off2 c2, Rd w' g b off2 (m - k) c2 (zs.drop k) := by
  have c0 : w.cell? ⟨g, 0, none⟩ = some (.slice (some ⟨b, off, none⟩) m c) := by rw [cell_of_row _ _ _ _ _ _ h.row]; rfl
  have f0 : w.frozen? ⟨g, 0, none⟩ = false := frozen_of_row _ _ _ _ _ h.row
  have hm := h.cap
  have hc := h.top
  have q1 : ¬ (m : Int) < (k : Int) := by omega
  have q2 : (0 : Int) ≤ (k : Int) := by omega
  have q3 : (k : Int) ≤ (c : Int) := by omega
  have q4 : (k : Int) ≤ (m : Int) := by omega
  have H := hid h
  clear h
  by_cases hck : c = k
  · subst hck
    obtain rfl : m = c := by omega
    have R := hid (H.out.set (off2 := off) (m2 := m - m) (c2 := 0) (ys := zs.drop m) (fun U hU => cut_end hU) (by omega) (by omega))
    go_enter Try.func80, Try.ntmps80
    go_wp2_with fail
    go_ret
    exact ⟨rfl, grown_set7 _ _ _ _, off, 0, by simpa using R.out⟩
  · have R := hid (H.out.set (off2 := off + k) (m2 := m - k) (c2 := c - k) (ys := zs.drop k) (fun U hU => cut_mid hU hk) (by omega) (by omega))
    go_enter Try.func80, Try.ntmps80
    go_wp2_with fail
    go_ret
    exact ⟨rfl, grown_set7 _ _ _ _, off + k, c - k, R.out⟩
set_option maxHeartbeats 1600000 in
theorem take_no {g m c : Nat} {ad : Option Addr} (k : Nat) {w : World} (h : w.heap[g]? = some (.cells #[.slice ad m c] 92 (0, 0))) (hk : m < k) (hk2 : k ≤ 1000) :
    Calls Try.prog 80 #[.pointer (some ⟨g, 0, none⟩), .int .i64 (k : Int)] w fun e w' => e = .panicked [{ v := .iface 70 (.int .i64 ((k : Int) - (m : Int))), recovered := false }] ∧ w' = w := by
  have c0 : w.cell? ⟨g, 0, none⟩ = some (.slice ad m c) := by rw [cell_of_row _ _ _ _ _ _ h]; rfl
  have q1 : (m : Int) < (k : Int) := by omega
  go_enter Try.func80, Try.ntmps80
  go_wp2_with fail
  exact ⟨rfl, rfl, rfl⟩

set_option maxHeartbeats 1600000 in
theorem number_yes {g b off m c : Nat} {zs : List Int} {w : World} (h : Rd w g b off m c zs) (k : Nat) (hk : k ≤ m) (hk8 : k ≤ 8) :
    Calls Try.prog 79 #[.pointer (some ⟨g, 0, none⟩), .int .i64 (k : Int)] w fun e w' => e = .returned (.int .i64 (numOf (zs.take k) 0 (k : Int))) ∧ w.grownBy w' (some g) ∧ ∃ off2 c2, Rd w' g b off2 (m - k) c2 (zs.drop k) := by
  have H := hid h
  clear h
  go_enter Try.func79, Try.ntmps79
  go_wp2_with fail
  refine (take_yes H.out k hk).mono ?_
  rintro e w1 ⟨rfl, hg, off2, c2, hR⟩
  have HR := hid hR
  have HG := hid hg
  have RF := reads_front (H.out.reads.other hg (fun a e => by cases e; exact fun e => H.out.ne (Option.some.inj e))) hk
  clear hR hg
  go_wp2_with fail
  refine (impl_GetNum c RF (by omega) 0 (k : Int) (by omega) (by omega) (by omega)).mono ?_
  rintro e w2 ⟨rfl, e2⟩
  subst w2
  go_wp2_with fail
  go_ret
  exact ⟨rfl, HG.out, off2, c2, HR.out⟩
set_option maxHeartbeats 1600000 in
theorem number_no {g m c : Nat} {ad : Option Addr} (k : Nat) {w : World} (h : w.heap[g]? = some (.cells #[.slice ad m c] 92 (0, 0))) (hk : m < k) (hk2 : k ≤ 1000) :
    Calls Try.prog 79 #[.pointer (some ⟨g, 0, none⟩), .int .i64 (k : Int)] w fun e w' => e = .panicked [{ v := .iface 70 (.int .i64 ((k : Int) - (m : Int))), recovered := false }] ∧ w' = w := by
  have H := hid h
  clear h
  go_enter Try.func79, Try.ntmps79
  go_wp2_with fail
  refine (take_no k H.out hk hk2).mono ?_
  rintro e w1 ⟨rfl, e1⟩
  subst w1
  go_wp2_with fail
  exact ⟨rfl, rfl, rfl⟩
end Go.Proofs.Ytdfieopdbpklnaa
