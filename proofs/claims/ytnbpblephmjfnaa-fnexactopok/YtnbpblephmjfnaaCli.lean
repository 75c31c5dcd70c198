/- The library's Clone, and itemOf: a content turned back into an item. -/
import Derived.Test.YtnbpblephmjfnaaCt
import Derived.Laws.AppendOwnNone
import Derived.WalkLawsBesides
namespace Go.Proofs.Ytnbpblephmjfnaa
open Go.RowKit
theorem eql_none (c : Nat) (w : World) : (binOp .eql 23 (.slice none 0 c) (.slice none 0 0)).run Try.prog w = .ok (.bool true) w := by kernel_rfl
theorem eql_some (a : Addr) (n c : Nat) (w : World) : (binOp .eql 23 (.slice (some a) n c) (.slice none 0 0)).run Try.prog w = .ok (.bool false) w := by kernel_rfl
theorem as_int_int (v : Value) (w : World) : (Instr.typeAssert (.iface 60 v) 56 60 true).run Try.prog w = .ok (.tuple #[v, .bool true]) w := by kernel_rfl
theorem as_float_int (v : Value) (w : World) : (Instr.typeAssert (.iface 61 v) 56 60 true).run Try.prog w = .ok (.tuple #[.int .i64 0, .bool false]) w := by kernel_rfl
theorem as_text_int (v : Value) (w : World) : (Instr.typeAssert (.iface 62 v) 56 60 true).run Try.prog w = .ok (.tuple #[.int .i64 0, .bool false]) w := by kernel_rfl
theorem as_none_int (v : Value) (w : World) : (Instr.typeAssert (.iface 64 v) 56 60 true).run Try.prog w = .ok (.tuple #[.int .i64 0, .bool false]) w := by kernel_rfl
theorem as_float_float (v : Value) (w : World) : (Instr.typeAssert (.iface 61 v) 56 61 true).run Try.prog w = .ok (.tuple #[v, .bool true]) w := by kernel_rfl
theorem as_text_float (v : Value) (w : World) : (Instr.typeAssert (.iface 62 v) 56 61 true).run Try.prog w = .ok (.tuple #[.float .f64 0, .bool false]) w := by kernel_rfl
theorem as_none_float (v : Value) (w : World) : (Instr.typeAssert (.iface 64 v) 56 61 true).run Try.prog w = .ok (.tuple #[.float .f64 0, .bool false]) w := by kernel_rfl
theorem as_text_text (v : Value) (w : World) : (Instr.typeAssert (.iface 62 v) 56 62 true).run Try.prog w = .ok (.tuple #[v, .bool true]) w := by kernel_rfl
theorem as_none_text (v : Value) (w : World) : (Instr.typeAssert (.iface 64 v) 56 62 true).run Try.prog w = .ok (.tuple #[.slice none 0 0, .bool false]) w := by kernel_rfl
set_option maxRecDepth 100000 in
set_option maxHeartbeats 1600000 in
theorem bytes_clone {ad : Option Addr} {n : Nat} (cap : Nat) {zs : List Int} {w : World} (h : Reads w ad n zs) (hn : n ≤ 2097152) :
 Calls Try.prog 36 #[.slice ad n cap] w fun e w' => ∃ v, e = .returned v ∧ w'.ownsRow w.heap.size 5 1 v n (bys zs) ∧ Below w.heap.size w w' := by
 obtain ⟨i0, hi, hz0, hz1, hz2⟩ := info_parts Try.info5
 have hl := h.len
 have o5 := World.ownsRow_lit (base := w.heap.size) (e := 5) (size := 1) w #[] 0 (Nat.le_refl _) (Nat.zero_le _) rfl
 have r2 := h.alloc (.cells #[] 5)
 have O5 := hid o5
 have HR := hid r2
 clear o5 r2
 rcases hc : ad with _ | a
 · subst hc
   obtain rfl : n = 0 := by
    rcases h.cells with h0 | ⟨b, off, e, _⟩
    · exact h0
    · cases e
   obtain rfl : zs = [] := List.eq_nil_of_length_eq_zero hl
   clear h HR O5
   have q := eql_none
   go_enter Try.func36, Try.ntmps36
   go_wp2_with fail
   go_ret
   exact ⟨_, rfl, World.ownsRow_nil _ _ _ _, Below.refl _ _⟩
 · subst hc
   clear h
   have q := eql_some
   go_enter Try.func36, Try.ntmps36
   go_wp2_with (at_builtin; refine wpList_append_own _ rfl _ _ 23 rfl w.heap.size 5 i0 (.int .u8 0) 1 1 Try.underlying23 hi hz0 hz1 hz2 rfl (by decide) _ _ _ rfl O5.out a n cap (bys zs) rfl ?k2 HR.out.news (bys_one _) ?k4 ?k5 ?k6 ?_)
   case k2 => simp [bys_length, hl]
   case k4 => unfold maxLen; omega
   case k5 => omega
   intro v7 w7 o7 g7 _
   have o8 : w7.ownsRow w.heap.size 5 1 v7 n (bys zs) := by simpa using o7
   have B7 : Below w.heap.size w w7 := (Below.alloc1 w _).grown g7 (by simp) (fun k hk => (O5.out.lt k hk).1)
   have H8 := hid o8
   clear o7 o8 g7 O5 HR
   go_wp2_with fail
   go_ret
   exact ⟨_, rfl, H8.out, B7⟩
set_option maxRecDepth 100000 in
theorem itemOf_int (N : Int) (w : World) :
 Calls Try.prog 32 #[.iface 60 (.int .i64 N)] w fun e w' => e = .returned (.agg #[.int .i64 1, .int .i64 N, .float .f64 0, .slice none 0 0]) ∧ Below w.heap.size w w' := by
 have hst := fun w a m => run_store Try.prog w a (.float .f64 0) m rfl
 have R := heap_alloc_new w (.cells #[.int .i64 1, .int .i64 N, .float .f64 0, .slice none 0 0] 31)
 have HB := hid (Below.alloc1 w (.cells #[.int .i64 1, .int .i64 N, .float .f64 0, .slice none 0 0] 31))
 have HR := hid R
 clear R
 have q0 := as_int_int
 go_enter Try.func32, Try.ntmps32
 go_wp2_with fail
 exact bodyPost_ret (results_cell_row Try.results32 _ _ w.heap.size 31 _ (0, 0) _ rfl HR.out Try.underlying31 rfl size31) rfl ⟨rfl, HB.out⟩
set_option maxRecDepth 100000 in
theorem itemOf_float (f : Nat) (w : World) :
 Calls Try.prog 32 #[.iface 61 (.float .f64 f)] w fun e w' => e = .returned (.agg #[.int .i64 2, .int .i64 0, .float .f64 f, .slice none 0 0]) ∧ Below w.heap.size w w' := by
 have hst := fun w a m => run_store Try.prog w a (.float .f64 f) m rfl
 have R := heap_alloc_new w (.cells #[.int .i64 2, .int .i64 0, .float .f64 f, .slice none 0 0] 31)
 have HB := hid (Below.alloc1 w (.cells #[.int .i64 2, .int .i64 0, .float .f64 f, .slice none 0 0] 31))
 have HR := hid R
 clear R
 have q0 := as_float_int
 have q1 := as_float_float
 go_enter Try.func32, Try.ntmps32
 go_wp2_with fail
 exact bodyPost_ret (results_cell_row Try.results32 _ _ w.heap.size 31 _ (0, 0) _ rfl HR.out Try.underlying31 rfl size31) rfl ⟨rfl, HB.out⟩
set_option maxRecDepth 100000 in
theorem itemOf_none (w : World) :
 Calls Try.prog 32 #[.iface 64 (.agg #[])] w fun e w' => e = .returned (.agg #[.int .i64 0, .int .i64 0, .float .f64 0, .slice none 0 0]) ∧ Below w.heap.size w w' := by
 have hst := fun w a m => run_store Try.prog w a (.float .f64 0) m rfl
 have R := heap_alloc_new w (.cells #[.int .i64 0, .int .i64 0, .float .f64 0, .slice none 0 0] 31)
 have HB := hid (Below.alloc1 w (.cells #[.int .i64 0, .int .i64 0, .float .f64 0, .slice none 0 0] 31))
 have HR := hid R
 clear R
 have q0 := as_none_int
 have q1 := as_none_float
 have q2 := as_none_text
 go_enter Try.func32, Try.ntmps32
 go_wp2_with fail
 exact bodyPost_ret (results_cell_row Try.results32 _ _ w.heap.size 31 _ (0, 0) _ rfl HR.out Try.underlying31 rfl size31) rfl ⟨rfl, HB.out⟩
set_option maxRecDepth 100000 in
set_option maxHeartbeats 1600000 in
theorem itemOf_text {ad : Option Addr} {n : Nat} (cap : Nat) {zs : List Int} {w : World} (h : Reads w ad n zs) (hn : n ≤ 2097152) :
 Calls Try.prog 32 #[.iface 62 (.slice ad n cap)] w fun e w' => ∃ v, e = .returned (.agg #[.int .i64 3, .int .i64 0, .float .f64 0, v]) ∧ w'.ownsRow w.heap.size 5 1 v n (bys zs) ∧ Below w.heap.size w w' := by
 have hst := fun w a m => run_store Try.prog w a (.float .f64 0) m rfl
 have hbd := h.bd
 have R := heap_alloc_new w (.cells #[.int .i64 0, .int .i64 0, .float .f64 0, .slice none 0 0] 31)
 have HB := hid (Below.alloc1 w (.cells #[.int .i64 0, .int .i64 0, .float .f64 0, .slice none 0 0] 31))
 have h1 := h.alloc (.cells #[.int .i64 0, .int .i64 0, .float .f64 0, .slice none 0 0] 31)
 have HZ := hid (alloc_size w (.cells #[.int .i64 0, .int .i64 0, .float .f64 0, .slice none 0 0] 31))
 have HR := hid R
 clear R h
 have q0 := as_text_int
 have q1 := as_text_float
 have q2 := as_text_text
 go_enter Try.func32, Try.ntmps32
 go_wp2_with fail
 refine (bytes_clone cap h1 hn).mono ?_
 rintro e w1 ⟨v, rfl, o, b⟩
 obtain ⟨ad1, cap1, rfl, r1, _⟩ := Reads.own o hbd
 have z := HZ.out
 have S1 := (b.block w.heap.size (by omega)).trans HR.out
 have B1 := HB.out.trans (b.mono HB.out.size)
 have T1 := hid S1
 rw [z] at o
 have O := hid o
 clear S1 b z HZ HB HR o r1 h1
 go_wp2_with (first
  | (refine wpList_store_row rfl 31 (.tmp 2) (.tmp 22) rfl w.heap.size #[.int .i64 3, .int .i64 0, .float .f64 0, .slice ad1 n cap1] rfl rfl 31 _ T1.out ?s1 ?s2 ?s3 ?_))
 case s1 => exact size31
 case s2 => rfl
 case s3 => simp [Value.oneCell']
 refine bodyPost_ret (results_cell_row Try.results32 _ _ w.heap.size 31 _ (0, 0) _ rfl (setRow_heap _ _ _ _ _ _ T1.out) Try.underlying31 rfl size31) rfl ⟨_, rfl, owns_base (owns_at O.out fun k hk => ?_) (by omega), below_setRow B1 (by omega) _⟩
 rw [setRow_other _ _ _ _ (by omega)]
end Go.Proofs.Ytnbpblephmjfnaa
