/- Texts of replies, plain; the program's codeWord and anyItemWord. Conditions: texts of at most 2^21 bytes; the library's table of powers of ten is as its text lays it. -/
import Derived.Test.YtoppccfgcccijaaDoorYi18
import Derived.Test.YtoppccfgcccijaaDoorEa13
import Derived.Lib.Join
namespace Go.Proofs.YtoppccfgcccijaaDoor
open Go.RowKit
set_option maxRecDepth 100000

/-- The two digits of a code. -/
def codeW (co : Int) : List Int := if 0 ≤ co ∧ co ≤ 99 then [48 + co / 10, 48 + co % 10] else [63, 63]
/-- An item's text, or a question mark. -/
def itW (K N : Int) (f : Nat) (Z : List Int) : List Int := if okI K N f Z.length = true then txtI K N f Z else [63]
def imW (e : Im) : List Int := itW e.K e.N e.F e.Z
/-- The words' bytes, one blank between two. -/
def tailW (ws : List (List Int)) : List Int := ws.flatMap (fun u => 32 :: u)
def joinW : List (List Int) → List Int
  | [] => []
  | u :: ws => u ++ tailW ws
theorem tailW_app (a b : List (List Int)) : tailW (a ++ b) = tailW a ++ tailW b := by simp [tailW]
theorem joinW_app (u : List Int) (ws vs : List (List Int)) : joinW (u :: ws ++ vs) = joinW (u :: ws) ++ tailW vs := by
  show u ++ tailW (ws ++ vs) = u ++ tailW ws ++ tailW vs
  rw [tailW_app, List.append_assoc]
/-- The word of a row. -/
def rowW (es : List Im) (k : Nat) : List Int := imW (es.getD (k * 2) im0) ++ 61 :: imW (es.getD (k * 2 + 1) im0)
def headW (se kd co nn K N : Int) (f : Nat) (zs : List Int) (tot : Nat) : List (List Int) := [codeW co, decI se, decI kd, decI nn, itW K N f zs, hexB (hi8 (fbits tot) 8)]
def rowsW (es : List Im) (m : Nat) : List (List Int) := (List.range m).map (rowW es)
theorem rowsW_succ (es : List Im) (k : Nat) : rowsW es (k + 1) = rowsW es k ++ [rowW es k] := by simp [rowsW, List.range_succ]
def txtR (se kd co nn K N : Int) (f : Nat) (zs : List Int) (tot : Nat) (es : List Im) (m : Nat) : List Int := joinW (headW se kd co nn K N f zs tot ++ rowsW es m)
theorem codeW_len (co : Int) : (codeW co).length = 2 := by unfold codeW; split <;> rfl
theorem itW_len (K N : Int) (f : Nat) (Z : List Int) : 1 ≤ (itW K N f Z).length ∧ (itW K N f Z).length ≤ 81 := by
  unfold itW
  split
  · rename_i h
    have hK := of_decide_eq_true (show decide (0 ≤ K ∧ K ≤ 3 ∧ Z.length ≤ 40 ∧ (K = 1 ∨ N = 0) ∧ (K = 2 ∨ f = 0) ∧ (K = 3 ∨ Z.length = 0)) = true from h)
    rcases txtI_head h with ⟨_, q⟩ | ⟨_, q⟩ | ⟨_, q⟩ | ⟨_, q⟩ <;> rw [q, List.length_cons]
    · have := decI_len N; omega
    · rw [hexB_len, hi8_length]; omega
    · rw [hexB_len]; omega
    · simp
  · simp
theorem rowW_len (es : List Im) (k : Nat) : (rowW es k).length ≤ 163 := by
  unfold rowW imW
  rw [List.length_append, List.length_cons]
  have h1 := itW_len (es.getD (k * 2) im0).K (es.getD (k * 2) im0).N (es.getD (k * 2) im0).F (es.getD (k * 2) im0).Z
  have h2 := itW_len (es.getD (k * 2 + 1) im0).K (es.getD (k * 2 + 1) im0).N (es.getD (k * 2 + 1) im0).F (es.getD (k * 2 + 1) im0).Z
  omega
theorem tailW_rows_len (es : List Im) : ∀ m, (tailW (rowsW es m)).length ≤ 164 * m
  | 0 => by simp [rowsW, tailW]
  | m + 1 => by
    rw [rowsW_succ, tailW_app, List.length_append]
    have h1 := tailW_rows_len es m
    have h2 := rowW_len es m
    have h3 : (tailW [rowW es m]).length = (rowW es m).length + 1 := by simp [tailW]
    omega
theorem headW_len (se kd co nn K N : Int) (f : Nat) (zs : List Int) (tot : Nat) : (joinW (headW se kd co nn K N f zs tot)).length ≤ 300 := by
  have h1 := codeW_len co
  have h2 := decI_len se
  have h3 := decI_len kd
  have h4 := decI_len nn
  have h5 := itW_len K N f zs
  have h6 : (hexB (hi8 (fbits tot) 8)).length = 16 := by rw [hexB_len, hi8_length]
  simp [headW, joinW, tailW]
  omega
theorem txtR_eq (se kd co nn K N : Int) (f : Nat) (zs : List Int) (tot : Nat) (es : List Im) (m : Nat) : txtR se kd co nn K N f zs tot es m = joinW (headW se kd co nn K N f zs tot) ++ tailW (rowsW es m) := joinW_app _ _ _
theorem txtR_len (se kd co nn K N : Int) (f : Nat) (zs : List Int) (tot : Nat) (es : List Im) (m : Nat) : (txtR se kd co nn K N f zs tot es m).length ≤ 300 + 164 * m := by
  rw [txtR_eq, List.length_append]
  have := headW_len se kd co nn K N f zs tot
  have := tailW_rows_len es m
  omega
/-- A list of bytes, told by its members. -/
theorem byteL_of {L : List Int} (h : ∀ z ∈ L, 0 ≤ z ∧ z ≤ 255) : byteL L := fun i => by
  by_cases hi : i < L.length
  · rw [List.getD_eq_getElem?_getD, List.getElem?_eq_getElem hi]; exact h _ (List.getElem_mem hi)
  · rw [List.getD_eq_getElem?_getD, List.getElem?_eq_none (by omega)]; simp
theorem byteL.mem {L : List Int} (h : byteL L) : ∀ z ∈ L, 0 ≤ z ∧ z ≤ 255 := fun z hz => by
  obtain ⟨i, hi, rfl⟩ := List.getElem_of_mem hz
  have := h i
  rwa [List.getD_eq_getElem?_getD, List.getElem?_eq_getElem hi] at this
theorem byteL.app {A B : List Int} (ha : byteL A) (hb : byteL B) : byteL (A ++ B) := byteL_of (fun z hz => by
  rcases List.mem_append.1 hz with h | h
  · exact ha.mem z h
  · exact hb.mem z h)
theorem byteL.cons {c : Int} {A : List Int} (hc : 0 ≤ c ∧ c ≤ 255) (ha : byteL A) : byteL (c :: A) := byteL_of (fun z hz => by
  rcases List.mem_cons.1 hz with rfl | h
  · exact hc
  · exact ha.mem z h)
theorem decI_byteR {n : Int} (h : -9223372036854775808 ≤ n ∧ n ≤ 9223372036854775807) : byteL (decI n) := byteL_of (fun z hz => by have := decI_bd h z hz; omega)
theorem codeW_byte (co : Int) : byteL (codeW co) := byteL_of (fun z hz => by
  unfold codeW at hz
  split at hz
  · simp only [List.mem_cons, List.not_mem_nil, or_false] at hz; omega
  · simp only [List.mem_cons, List.not_mem_nil, or_false] at hz; omega)
theorem itW_byte {K N : Int} {f : Nat} {Z : List Int} (hN : -9223372036854775808 ≤ N ∧ N ≤ 9223372036854775807) (hZ : byteL Z) : byteL (itW K N f Z) := by
  unfold itW
  split
  · exact txtI_byte hN hZ
  · exact byteL_of (fun z hz => by simp at hz; omega)
/-- A digit. -/
theorem decI_digit (d : Int) (h : 0 ≤ d ∧ d ≤ 9) : decI d = [48 + d] := by
  unfold decI
  rw [if_neg (by omega)]
  unfold decN
  rw [lowD_one (by omega)]
  simp
  omega
theorem code_cat18 (co : Int) (h : 0 ≤ co ∧ co ≤ 99) : str (decI (co / 10)) ++ str (decI (co % 10)) = str (codeW co) := by
  rw [decI_digit _ (by omega), decI_digit _ (by omega)]
  unfold codeW
  rw [if_pos h]
  apply ByteArray.ext
  simp [str]
theorem str_app18 (A B : List Int) : str A ++ str B = str (A ++ B) := by
  apply ByteArray.ext
  simp [str]
theorem impl_within18 (n lo hi : Int) (w : World) : Calls Tryd.prog 59 #[.int .i64 n, .int .i64 lo, .int .i64 hi] w fun e w' => e = .returned (.bool (decide (lo ≤ n ∧ n ≤ hi))) ∧ w' = w := by
  by_cases h1 : lo ≤ n
  · by_cases h2 : n ≤ hi
    · rw [decide_eq_true ⟨h1, h2⟩]
      go_enter Tryd.func59, Tryd.ntmps59
      go_wp2
      go_ret
      exact ⟨rfl, rfl⟩
    · rw [decide_eq_false (fun q => h2 q.2)]
      go_enter Tryd.func59, Tryd.ntmps59
      go_wp2
      go_ret
      exact ⟨rfl, rfl⟩
  · rw [decide_eq_false (fun q => h1 q.1)]
    go_enter Tryd.func59, Tryd.ntmps59
    go_wp2
    go_ret
    exact ⟨rfl, rfl⟩
set_option maxHeartbeats 3200000 in
theorem impl_codeWord (co : Int) {w : World} (ht : PowT w) :
    Calls Tryd.prog 45 #[.int .i64 co] w fun e w' => e = .returned (.string (str (codeW co))) ∧ Below w.heap.size w w' := by
  have HP := hid ht
  clear ht
  by_cases h : 0 ≤ co ∧ co ≤ 99
  · have HC := hid (code_cat18 co h)
    obtain ⟨h0, h1⟩ := h
    have D1 := hid (decI_digit (co / 10) (by omega))
    have D2 := hid (decI_digit (co % 10) (by omega))
    have hs : ¬ 9223372036854775807 < (str (decI (co / 10))).size + (str (decI (co % 10))).size := by rw [str_size18, str_size18, D1.out, D2.out]; simp
    go_enter Tryd.func45, Tryd.ntmps45
    go_wp2_with (go_at_call 59; refine (impl_within18 _ _ _ _).mono ?_; rintro e w1 ⟨rfl, ew⟩; subst ew; rw [decide_eq_true (show (0 : Int) ≤ co ∧ co ≤ 99 from ⟨h0, h1⟩)])
    refine (impl_Itoa (co / 10) (by omega) HP.out).mono ?_
    rintro e w2 ⟨rfl, b⟩
    have HB2 := hid b
    have HP2 := hid (HP.out.below b (Nat.le_refl _))
    clear b
    go_wp2_with fail
    refine (impl_Itoa (co % 10) (by omega) HP2.out).mono ?_
    rintro e w3 ⟨rfl, b⟩
    have HB3 := hid (HB2.out.trans (b.mono HB2.out.size))
    clear b
    go_wp2_with fail
    go_ret
    exact ⟨by rw [← HC.out]; rfl, HB3.out⟩
  · have HC := hid (show codeW co = [63, 63] by unfold codeW; rw [if_neg h])
    go_enter Tryd.func45, Tryd.ntmps45
    go_wp2_with (go_at_call 59; refine (impl_within18 _ _ _ _).mono ?_; rintro e w1 ⟨rfl, ew⟩; subst ew; rw [decide_eq_false h])
    go_ret
    exact ⟨by rw [HC.out]; rfl, Below.refl _ _⟩
set_option maxHeartbeats 3200000 in
theorem impl_anyItemWord (K N : Int) (f : Nat) {ad : Option Addr} {n : Nat} (cap : Nat) {zs : List Int} {w : World} (h : Reads w ad n zs) (hn : n ≤ 2097152) (hN : -9223372036854775808 ≤ N ∧ N ≤ 9223372036854775807) (hf : f < 18446744073709551616) (ht : PowT w) :
    Calls Tryd.prog 47 #[.agg #[.int .i64 K, .int .i64 N, .float .f64 f, .slice ad n cap]] w fun e w' => e = .returned (.string (str (itW K N f zs))) ∧ Below w.heap.size w w' := by
  have HB0 := hid (Below.alloc1 w (.cells #[.int .i64 K, .int .i64 N, .float .f64 f, .slice ad n cap] 28))
  have HN0 := hid (heap_alloc_new w (.cells #[.int .i64 K, .int .i64 N, .float .f64 f, .slice ad n cap] 28))
  have HR := hid (h.below HB0.out (Nat.le_refl _))
  have HP := hid (ht.below HB0.out (Nat.le_refl _))
  have HNb := hid hN
  have HL := hid h.len
  have HZ0 := hid (alloc_size w (.cells #[.int .i64 K, .int .i64 N, .float .f64 f, .slice ad n cap] 28))
  have hst := fun w a m => run_store Tryd.prog w a (.float .f64 f) m rfl
  clear h ht
  go_enter Tryd.func47, Tryd.ntmps47
  have e0 : (w.alloc (.cells #[.int .i64 K, .int .i64 N, .float .f64 f, .slice ad n cap] 28)).cell? ⟨w.heap.size, 0, none⟩ = some (.int .i64 K) := by rw [cell_of_row _ _ _ _ _ _ HN0.out]; rfl
  have e1 : (w.alloc (.cells #[.int .i64 K, .int .i64 N, .float .f64 f, .slice ad n cap] 28)).cell? ⟨w.heap.size, 1, none⟩ = some (.int .i64 N) := by rw [cell_of_row _ _ _ _ _ _ HN0.out]; rfl
  have e2 : (w.alloc (.cells #[.int .i64 K, .int .i64 N, .float .f64 f, .slice ad n cap] 28)).cell? ⟨w.heap.size, 2, none⟩ = some (.float .f64 f) := by rw [cell_of_row _ _ _ _ _ _ HN0.out]; rfl
  have e3 : (w.alloc (.cells #[.int .i64 K, .int .i64 N, .float .f64 f, .slice ad n cap] 28)).cell? ⟨w.heap.size, 3, none⟩ = some (.slice ad n cap) := by rw [cell_of_row _ _ _ _ _ _ HN0.out]; rfl
  go_wp2_with fail
  clear e0 e1 e2 e3
  generalize w.alloc (.cells #[.int .i64 K, .int .i64 N, .float .f64 f, .slice ad n cap] 28) = U at *
  refine (impl_ItemOk K N f ad n cap hf hn _).mono ?_
  rintro e u1 ⟨rfl, b1⟩
  obtain ⟨p, hp⟩ : ∃ p, w.heap.size = p := ⟨_, rfl⟩
  rw [hp] at HN0 HZ0
  try simp only [hp]
  have HB1 := hid (HB0.out.trans (b1.mono HB0.out.size))
  have HN1 := hid ((b1.block p (by have := HZ0.out; omega)).trans HN0.out)
  have HP1 := hid (HP.out.below b1 (Nat.le_refl _))
  have HR1 := hid (HR.out.below b1 (Nat.le_refl _))
  clear b1 hp
  have e0 : u1.cell? ⟨p, 0, none⟩ = some (.int .i64 K) := by rw [cell_of_row _ _ _ _ _ _ HN1.out]; rfl
  have e1 : u1.cell? ⟨p, 1, none⟩ = some (.int .i64 N) := by rw [cell_of_row _ _ _ _ _ _ HN1.out]; rfl
  have e2 : u1.cell? ⟨p, 2, none⟩ = some (.float .f64 f) := by rw [cell_of_row _ _ _ _ _ _ HN1.out]; rfl
  have e3 : u1.cell? ⟨p, 3, none⟩ = some (.slice ad n cap) := by rw [cell_of_row _ _ _ _ _ _ HN1.out]; rfl
  by_cases hok : okI K N f n = true
  · have HOk := hid (show okI K N f zs.length = true by rw [HL.out]; exact hok)
    have HW := hid (show itW K N f zs = txtI K N f zs by unfold itW; rw [if_pos HOk.out])
    rw [hok]
    clear hok
    go_wp2_with fail
    clear e0 e1 e2 e3
    refine (impl_itemWord K N f cap HR1.out hn HNb.out hf HP1.out HOk.out).mono ?_
    rintro e u2 ⟨rfl, b2⟩
    have HB2 := hid (HB1.out.trans (b2.mono HB1.out.size))
    clear b2
    go_wp2_with fail
    go_ret
    exact ⟨by rw [HW.out]; rfl, HB2.out⟩
  · have HW := hid (show itW K N f zs = [63] by unfold itW; rw [if_neg (by rw [HL.out]; exact hok)])
    rw [Bool.eq_false_iff.2 hok]
    go_wp2_with fail
    go_ret
    exact ⟨by rw [HW.out]; rfl, HB1.out⟩
end Go.Proofs.YtoppccfgcccijaaDoor
