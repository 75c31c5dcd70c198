/- The specification's l18item: an item's text, or a question mark. Conditions: texts of at most 2^21 bytes. -/
import Derived.Test.YtoppccfgcccijaaDoorMgb
import Derived.Test.YtoppccfgcccijaaDoorRf18
namespace Go.Proofs.YtoppccfgcccijaaDoor
open Go.RowKit
set_option maxRecDepth 100000

theorem TxB.new {B : Nat} {w : World} {v : Value} {L : List Int} (h : TxB B w v L) (hl : 0 < L.length) : NewB B w v L := by
  rcases h with ⟨h1, h2⟩ | h
  · first
      | (rw [h1] at hl; simp at hl; done)
      | (rw [h2] at hl; simp at hl; done)
  · exact h
set_option maxHeartbeats 3200000 in
theorem spec_l18item (K N : Int) (f : Nat) {ad : Option Addr} {n : Nat} (cap : Nat) {zs : List Int} {w : World} (h : Reads w ad n zs) (hn : n ≤ 2097152) (hN : -9223372036854775808 ≤ N ∧ N ≤ 9223372036854775807) (hf : f < 18446744073709551616) :
    Calls Tryd.prog 43 #[.agg #[.int .i64 K, .int .i64 N, .float .f64 f, .slice ad n cap]] w fun e w' => ∃ v, e = .returned v ∧ NewB w.heap.size w' v (itW K N f zs) ∧ Below w.heap.size w w' := by
  have HB0 := hid (Below.alloc1 w (.cells #[.int .i64 K, .int .i64 N, .float .f64 f, .slice ad n cap] 28))
  have HN0 := hid (heap_alloc_new w (.cells #[.int .i64 K, .int .i64 N, .float .f64 f, .slice ad n cap] 28))
  have HR := hid (h.below HB0.out (Nat.le_refl _))
  have HNb := hid hN
  have HL := hid h.len
  have HZ0 := hid (alloc_size w (.cells #[.int .i64 K, .int .i64 N, .float .f64 f, .slice ad n cap] 28))
  have hst := fun w a m => run_store Tryd.prog w a (.float .f64 f) m rfl
  clear h
  go_enter Tryd.func43, Tryd.ntmps43
  have e0 : (w.alloc (.cells #[.int .i64 K, .int .i64 N, .float .f64 f, .slice ad n cap] 28)).cell? ⟨w.heap.size, 0, none⟩ = some (.int .i64 K) := by rw [cell_of_row _ _ _ _ _ _ HN0.out]; rfl
  have e1 : (w.alloc (.cells #[.int .i64 K, .int .i64 N, .float .f64 f, .slice ad n cap] 28)).cell? ⟨w.heap.size, 1, none⟩ = some (.int .i64 N) := by rw [cell_of_row _ _ _ _ _ _ HN0.out]; rfl
  have e2 : (w.alloc (.cells #[.int .i64 K, .int .i64 N, .float .f64 f, .slice ad n cap] 28)).cell? ⟨w.heap.size, 2, none⟩ = some (.float .f64 f) := by rw [cell_of_row _ _ _ _ _ _ HN0.out]; rfl
  have e3 : (w.alloc (.cells #[.int .i64 K, .int .i64 N, .float .f64 f, .slice ad n cap] 28)).cell? ⟨w.heap.size, 3, none⟩ = some (.slice ad n cap) := by rw [cell_of_row _ _ _ _ _ _ HN0.out]; rfl
  go_wp2_with fail
  clear e0 e1 e2 e3
  generalize w.alloc (.cells #[.int .i64 K, .int .i64 N, .float .f64 f, .slice ad n cap] 28) = U at *
  refine (spec_ItemOk K N f ad n cap hf hn U).mono ?_
  rintro e u1 ⟨rfl, b1⟩
  obtain ⟨p, hp⟩ : ∃ p, w.heap.size = p := ⟨_, rfl⟩
  have HPp := hid hp
  rw [hp] at HN0 HZ0
  try simp only [hp]
  have HB1 := hid (HB0.out.trans (b1.mono HB0.out.size))
  have HN1 := hid ((b1.block p (by have := HZ0.out; omega)).trans HN0.out)
  have HR1 := hid (HR.out.below b1 (Nat.le_refl _))
  clear b1 hp
  have e0 : u1.cell? ⟨p, 0, none⟩ = some (.int .i64 K) := by rw [cell_of_row _ _ _ _ _ _ HN1.out]; rfl
  have e1 : u1.cell? ⟨p, 1, none⟩ = some (.int .i64 N) := by rw [cell_of_row _ _ _ _ _ _ HN1.out]; rfl
  have e2 : u1.cell? ⟨p, 2, none⟩ = some (.float .f64 f) := by rw [cell_of_row _ _ _ _ _ _ HN1.out]; rfl
  have e3 : u1.cell? ⟨p, 3, none⟩ = some (.slice ad n cap) := by rw [cell_of_row _ _ _ _ _ _ HN1.out]; rfl
  by_cases hok : okI K N f n = true
  · have HOk := hid (show okI K N f zs.length = true by rw [HL.out]; exact hok)
    have HW := hid (show itW K N f zs = txtI K N f zs by unfold itW; rw [if_pos HOk.out])
    have HLt := hid (show 0 < (txtI K N f zs).length by have := (itW_len K N f zs).1; rw [HW.out] at this; omega)
    rw [hok]
    clear hok
    go_wp2_with fail
    clear e0 e1 e2 e3
    refine (spec_ItemText K N f cap HR1.out hn HNb.out hf).mono ?_
    rintro e u2 ⟨v, rfl, o, b2⟩
    have HB2 := hid (HB1.out.trans (b2.mono HB1.out.size))
    have HO := hid ((o.new HLt.out).lower HB1.out.size)
    clear b2 o
    go_wp2_with fail
    go_ret
    exact ⟨_, rfl, by rw [HW.out]; exact HO.out, HB2.out⟩
  · have HW := hid (show itW K N f zs = [63] by unfold itW; rw [if_neg (by rw [HL.out]; exact hok)])
    have hcv := Go.Lib.run_convert_bytes_const (P := Tryd.prog) u1 23 5 #[.int .u8 63] 1 1 Tryd.underlying23 Tryd.underlying5
    have HO := hid ((NewB.lit u1 #[.int .u8 63] [63] rfl (by decide) (by unfold maxLen; simp) (1, 2)).lower HB1.out.size)
    have HB2 := hid (HB1.out.trans ((Below.alloc1 u1 (.cells #[.int .u8 63] 5 (1, 2))).mono HB1.out.size))
    rw [Bool.eq_false_iff.2 hok]
    go_wp2_with fail
    go_ret
    exact ⟨_, rfl, by rw [HW.out]; exact HO.out, HB2.out⟩
end Go.Proofs.YtoppccfgcccijaaDoor
