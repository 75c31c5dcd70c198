/- The program's itemWord and ItemText. Conditions: texts of at most 2^21 bytes; the library's table of powers of ten is as its text lays it. -/
import Derived.Test.YtoppccfgcccijaaDoorMgb
import Derived.Test.YtoppccfgcccijaaDoorXh18
namespace Go.Proofs.YtoppccfgcccijaaDoor
open Go.RowKit
set_option maxRecDepth 100000

/-- The library's table of powers of ten is there. -/
def PowT (w : World) : Prop := Lib.TabIs Tryd.prog w "internal/strconv.uint64pow10" .u64 Lib.pow10Tab
theorem var_below18 {w w' : World} {B : Nat} {nm : String} {cs : Array Value} (h : w.var? Tryd.prog nm = some cs) (b : Below B w w') (hB : w.heap.size ≤ B) : w'.var? Tryd.prog nm = some cs := by
  unfold World.var? at h ⊢
  cases hg : Tryd.prog.globalNamed nm with
  | none => simp [hg] at h
  | some g =>
    simp only [hg, Option.bind_some] at h ⊢
    have hlt : g < w.heap.size := by
      rcases Nat.lt_or_ge g w.heap.size with h' | h'
      · exact h'
      · simp [Array.getElem?_eq_none h'] at h
    rw [b.block g (by omega)]
    exact h
theorem PowT.below {w w' : World} {B : Nat} (h : PowT w) (b : Below B w w') (hB : w.heap.size ≤ B) : PowT w' := var_below18 h b hB
/-- The library's Itoa. -/
theorem impl_Itoa (n : Int) (hn : -9223372036854775808 ≤ n ∧ n ≤ 9223372036854775807) {w : World} (h : PowT w) :
    Calls Tryd.prog 46 #[.int .i64 n] w fun e w' => e = .returned (.string (str (decI n))) ∧ Below w.heap.size w w' := by
  refine (sh_strconv_Itoa n hn.1 hn.2 w h).mono ?_
  rintro e w' ⟨rfl, k, os, rfl⟩
  rw [str_itoa18 hn]
  exact ⟨rfl, rfl, rfl, rfl, by simp [Sort.grow], fun j hj => by simp [Sort.grow, Array.getElem?_append, hj]⟩
set_option maxHeartbeats 3200000 in
theorem impl_itemWord (K N : Int) (f : Nat) {ad : Option Addr} {n : Nat} (cap : Nat) {zs : List Int} {w : World} (h : Reads w ad n zs) (hn : n ≤ 2097152) (hN : -9223372036854775808 ≤ N ∧ N ≤ 9223372036854775807) (hf : f < 18446744073709551616) (ht : PowT w) (hok : okI K N f zs.length = true) :
    Calls Tryd.prog 32 #[.agg #[.int .i64 K, .int .i64 N, .float .f64 f, .slice ad n cap]] w fun e w' => e = .returned (.string (str (txtI K N f zs))) ∧ Below w.heap.size w w' := by
  have HT := hid (txtI_head (Z := zs) hok)
  have HB0 := hid (Below.alloc1 w (.cells #[.int .i64 K, .int .i64 N, .float .f64 f, .slice ad n cap] 28))
  have HN0 := hid (heap_alloc_new w (.cells #[.int .i64 K, .int .i64 N, .float .f64 f, .slice ad n cap] 28))
  have HR := hid (h.below HB0.out (Nat.le_refl _))
  have HP := hid (ht.below HB0.out (Nat.le_refl _))
  have HNb := hid hN
  have HLn := hid h.len
  have hst := fun w a m => run_store Tryd.prog w a (.float .f64 f) m rfl
  clear h ht hok
  go_enter Tryd.func32, Tryd.ntmps32
  have e0 : (w.alloc (.cells #[.int .i64 K, .int .i64 N, .float .f64 f, .slice ad n cap] 28)).cell? ⟨w.heap.size, 0, none⟩ = some (.int .i64 K) := by rw [cell_of_row _ _ _ _ _ _ HN0.out]; rfl
  have e1 : (w.alloc (.cells #[.int .i64 K, .int .i64 N, .float .f64 f, .slice ad n cap] 28)).cell? ⟨w.heap.size, 1, none⟩ = some (.int .i64 N) := by rw [cell_of_row _ _ _ _ _ _ HN0.out]; rfl
  have e2 : (w.alloc (.cells #[.int .i64 K, .int .i64 N, .float .f64 f, .slice ad n cap] 28)).cell? ⟨w.heap.size, 2, none⟩ = some (.float .f64 f) := by rw [cell_of_row _ _ _ _ _ _ HN0.out]; rfl
  have e3 : (w.alloc (.cells #[.int .i64 K, .int .i64 N, .float .f64 f, .slice ad n cap] 28)).cell? ⟨w.heap.size, 3, none⟩ = some (.slice ad n cap) := by rw [cell_of_row _ _ _ _ _ _ HN0.out]; rfl
  have hK := HT.out
  rcases hK with ⟨rfl, hK⟩ | ⟨rfl, hK⟩ | ⟨rfl, hK⟩ | ⟨rfl, hK⟩
  · rw [hK, ← str_cons18]
    have hs : ¬ 9223372036854775807 < 1 + (str (decI N)).size := by rw [str_size18]; have := decI_len N; omega
    go_wp2_with (go_at_call 46; refine (impl_Itoa N HNb.out HP.out).mono ?_; rintro e w1 ⟨rfl, b⟩; have HB1 := hid (HB0.out.trans (b.mono HB0.out.size)); clear b)
    go_ret
    exact ⟨rfl, HB1.out⟩
  · rw [hK, ← str_cons18]
    have hs : ¬ 9223372036854775807 < 1 + (str (hexB (hi8 (fbits f) 8))).size := by rw [str_size18, hexB_len, hi8_length]; omega
    go_wp2_with (go_at_call 48; refine (impl_floatWord f hf _).mono ?_; rintro e w1 ⟨rfl, b⟩; have HB1 := hid (HB0.out.trans (b.mono HB0.out.size)); clear b)
    go_ret
    exact ⟨rfl, HB1.out⟩
  · rw [hK, ← str_cons18]
    have hs : ¬ 9223372036854775807 < 1 + (str (hexB zs)).size := by rw [str_size18, hexB_len, HLn.out]; omega
    go_wp2_with (go_at_call 53; refine (impl_hexOf cap HR.out hn).mono ?_; rintro e w1 ⟨rfl, b⟩; have HB1 := hid (HB0.out.trans (b.mono HB0.out.size)); clear b)
    go_ret
    exact ⟨rfl, HB1.out⟩
  · rw [hK]
    go_wp2_with fail
    go_ret
    exact ⟨rfl, HB0.out⟩
theorem txtI_bad18 {K N : Int} {f : Nat} {Z : List Int} (h : ¬ okI K N f Z.length = true) : txtI K N f Z = [] := by unfold txtI; rw [if_neg h]
set_option maxHeartbeats 3200000 in
theorem impl_ItemText (K N : Int) (f : Nat) {ad : Option Addr} {n : Nat} (cap : Nat) {zs : List Int} {w : World} (h : Reads w ad n zs) (hn : n ≤ 2097152) (hN : -9223372036854775808 ≤ N ∧ N ≤ 9223372036854775807) (hf : f < 18446744073709551616) (ht : PowT w) :
    Calls Tryd.prog 9 #[.agg #[.int .i64 K, .int .i64 N, .float .f64 f, .slice ad n cap]] w fun e w' => ∃ v, e = .returned v ∧ OwF w.heap.size w' v (txtI K N f zs).length (bys (txtI K N f zs)) ∧ Below w.heap.size w w' := by
  have HB0 := hid (Below.alloc1 w (.cells #[.int .i64 K, .int .i64 N, .float .f64 f, .slice ad n cap] 28))
  have HN0 := hid (heap_alloc_new w (.cells #[.int .i64 K, .int .i64 N, .float .f64 f, .slice ad n cap] 28))
  have HR := hid (h.below HB0.out (Nat.le_refl _))
  have HP := hid (ht.below HB0.out (Nat.le_refl _))
  have HNb := hid hN
  have HL := hid h.len
  have HBy := hid (txtI_byte (f := f) (K := K) hN h.bd)
  have HZ0 := hid (alloc_size w (.cells #[.int .i64 K, .int .i64 N, .float .f64 f, .slice ad n cap] 28))
  have hst := fun w a m => run_store Tryd.prog w a (.float .f64 f) m rfl
  clear h ht
  go_enter Tryd.func9, Tryd.ntmps9
  have e0 : (w.alloc (.cells #[.int .i64 K, .int .i64 N, .float .f64 f, .slice ad n cap] 28)).cell? ⟨w.heap.size, 0, none⟩ = some (.int .i64 K) := by rw [cell_of_row _ _ _ _ _ _ HN0.out]; rfl
  have e1 : (w.alloc (.cells #[.int .i64 K, .int .i64 N, .float .f64 f, .slice ad n cap] 28)).cell? ⟨w.heap.size, 1, none⟩ = some (.int .i64 N) := by rw [cell_of_row _ _ _ _ _ _ HN0.out]; rfl
  have e2 : (w.alloc (.cells #[.int .i64 K, .int .i64 N, .float .f64 f, .slice ad n cap] 28)).cell? ⟨w.heap.size, 2, none⟩ = some (.float .f64 f) := by rw [cell_of_row _ _ _ _ _ _ HN0.out]; rfl
  have e3 : (w.alloc (.cells #[.int .i64 K, .int .i64 N, .float .f64 f, .slice ad n cap] 28)).cell? ⟨w.heap.size, 3, none⟩ = some (.slice ad n cap) := by rw [cell_of_row _ _ _ _ _ _ HN0.out]; rfl
  go_wp2_with fail
  clear e0 e1 e2 e3
  generalize w.alloc (.cells #[.int .i64 K, .int .i64 N, .float .f64 f, .slice ad n cap] 28) = U at *
  refine (impl_ItemOk K N f ad n cap hf hn _).mono ?_
  rintro e u1 ⟨rfl, b1⟩
  obtain ⟨p, hp⟩ : ∃ p, w.heap.size = p := ⟨_, rfl⟩
  have HPp := hid hp
  rw [hp] at HN0 HZ0
  try simp only [hp]
  have HB1 := hid (HB0.out.trans (b1.mono HB0.out.size))
  have HN1 := hid ((b1.block p (by have := HZ0.out; omega)).trans HN0.out)
  have HP1 := hid (HP.out.below b1 (Nat.le_refl _))
  have HR1 := hid (HR.out.below b1 (Nat.le_refl _))
  clear b1 hp
  have e0 : u1.cell? ⟨p, 0, none⟩ = some (.int .i64 K) := by rw [cell_of_row _ _ _ _ _ _ HN1.out]; rfl
  have e1 : u1.cell? ⟨p, 1, none⟩ = some (.int .i64 N) := by rw [cell_of_row _ _ _ _ _ _ HN1.out]; rfl
  have e2 : u1.cell? ⟨p, 2, none⟩ = some (.float .f64 f) := by rw [cell_of_row _ _ _ _ _ _ HN1.out]; rfl
  have e3 : u1.cell? ⟨p, 3, none⟩ = some (.slice ad n cap) := by rw [cell_of_row _ _ _ _ _ _ HN1.out]; rfl
  by_cases hok : okI K N f n = true
  · have HOk := hid (show okI K N f zs.length = true by rw [HL.out]; exact hok)
    rw [hok]
    clear hok
    go_wp2_with fail
    clear e0 e1 e2 e3
    refine (impl_itemWord K N f cap HR1.out hn HNb.out hf HP1.out HOk.out).mono ?_
    rintro e u2 ⟨rfl, b2⟩
    have HB2 := hid (HB1.out.trans (b2.mono HB1.out.size))
    clear b2
    have hcv := Lib.run_convert_string_bytes (P := Tryd.prog) u2 9 23 5 (str (txtI K N f zs)) (u := .string) Tryd.underlying9 Tryd.underlying23 Tryd.underlying5
    have HO := hid (bytes_own18 HBy.out u2)
    have HB3 := hid (HB2.out.trans ((bytes_below18 u2 (str (txtI K N f zs)) 5).mono HB2.out.size))
    have hsz := HB2.out.size
    have HS := hid (str_size18 (txtI K N f zs))
    go_wp2_with fail
    go_ret
    refine ⟨_, rfl, ?_, HB3.out⟩
    rw [HS.out]
    exact (HO.out _).mono hsz
  · have HT := hid (txtI_bad18 (K := K) (N := N) (f := f) (Z := zs) (by rw [HL.out]; exact hok))
    rw [Bool.eq_false_iff.2 hok]
    go_wp2_with fail
    go_ret
    refine ⟨_, rfl, ?_, HB1.out⟩
    rw [HT.out]
    exact .inl ⟨rfl, rfl, rfl⟩
end Go.Proofs.YtoppccfgcccijaaDoor
