/- itemRead of the program: what is read of bytes. -/
import Derived.Test.YtebhipicfgnajaaMgb
import Derived.Test.YtebhipicfgnajaaIx
import Derived.Deep.RegionHeld3
namespace Go.Proofs.Ytebhipicfgnajaa
open Go.RowKit

/-- What is read of bytes, floats by d. -/
def readR (d : Nat → Option Nat) : List Int → Int × Int × Nat × List Int × Bool
  | [] => (0, 0, 0, [], false)
  | k :: ts =>
    if k = 3 then (if ts.length ≤ 40 then (3, 0, 0, ts, true) else (0, 0, 0, [], false))
    else if ts.length = 8 then
      if k = 1 then (1, (low ts : Int) - 9223372036854775808, 0, [], true)
      else if k = 2 then (match d (low ts) with | some y => (2, 0, y, [], true) | none => (0, 0, 0, [], false))
      else (0, 0, 0, [], false)
    else (0, 0, 0, [], false)

/-- Where the rest of a list begins. -/
def tl (b off cap : Nat) : Option Addr := if cap = 1 then some ⟨b, off, none⟩ else some ⟨b, off + 1, none⟩

theorem Reads.rest {w : World} {b off n cap : Nat} {k : Int} {ts : List Int} (h : Reads w (some ⟨b, off, none⟩) n (k :: ts)) (hc : n ≤ cap) : Reads w (tl b off cap) (n - 1) ts := by
  have hl := h.len
  simp at hl
  refine ⟨by omega, ?_, fun i => h.bd (i + 1)⟩
  rcases h.cells with h0 | ⟨b', off', e, hcc⟩
  · omega
  · cases e
    by_cases h1 : cap = 1
    · exact .inl (by omega)
    · refine .inr ⟨_, _, by rw [tl, if_neg h1], fun i hi => ?_⟩
      have := hcc (i + 1) (by omega)
      rw [show off + (i + 1) = off + 1 + i by omega] at this
      exact this

theorem results_cell_tmp {P : Program} {fn : Func} {p q : Tmp} {ty : TypeId} (h : fn.results = #[.cell p ty, .tmp q]) (tmps : Array Value) (w : World) (g : Nat) (t : TypeId) (cs : Array Value) (fr : Nat × Nat) (d : TypeDesc)
    (hp : tmps.getD p undef = .pointer (some ⟨g, 0, none⟩)) (hg : w.heap[g]? = some (.cells cs t fr))
    (hu : P.underlying ty = some d) (hd : (match d with | .struct _ | .array _ _ => true | _ => false) = true) (hi : (P.info? ty).map (·.size) = some cs.size) :
    (results fn tmps).run P w = .ok (.tuple #[.agg cs, tmps.getD q undef]) w := by
  have hp' : tmps[p]?.getD undef = .pointer (some ⟨g, 0, none⟩) := by simpa using hp
  simp [results, h, hp', asAddr, run_loadVar_row w g t ty cs fr d hg hu hd hi]

set_option maxRecDepth 100000 in
set_option maxHeartbeats 1600000 in
theorem itemRead_no1 (fn b off : Nat) (k : Int) {w : World} (c0 : w.cell? ⟨b, off, none⟩ = some (.int .u8 k)) (hk : 0 ≤ k ∧ k ≤ 255) 
    (C : ∀ W : World, Below w.heap.size w W → Calls Try.prog 94 #[.int .i64 k, .slice (some ⟨b, off, none⟩) 0 0, .func (.func fn) #[] #[]] W fun e w' => ∃ v, e = .returned (.tuple #[v, .bool false]) ∧ w' = W) :
    Calls Try.prog 90 #[.slice (some ⟨b, off, none⟩) 1 1, .func (.func fn) #[] #[]] w fun e w' => e = .returned (.tuple #[.agg #[.int .i64 0, .int .i64 0, .float .f64 0, .slice none 0 0], .bool false]) ∧ Below w.heap.size w w' := by
  have hst := fun w a m => run_store Try.prog w a (.float .f64 0) m rfl
  have hw : IntKind.i64.wrap k = k := by rw [IntKind.wrap_i64]; omega
  have HC := hid C
  have d0 := cell_oldx (w := w) (.cells #[.int .i64 0, .int .i64 0, .float .f64 0, .slice none 0 0] 41) c0
  have R := heap_alloc_new w (.cells #[.int .i64 0, .int .i64 0, .float .f64 0, .slice none 0 0] 41)
  have HB := hid (Below.alloc1 w (.cells #[.int .i64 0, .int .i64 0, .float .f64 0, .slice none 0 0] 41))
  have HZ := hid (alloc_size w (.cells #[.int .i64 0, .int .i64 0, .float .f64 0, .slice none 0 0] 41))
  have HR := hid R
  clear R C c0 hk
  go_enter Try.func90, Try.ntmps90
  go_wp2_with fail
  go_region_held3 (fun W => W.cell? ⟨b, off, none⟩ = some (.int .u8 k))
    (first | exact d0 | (simpa using d0))
    (first
      | (go_at_call 94; refine (HC.out _ (HB.out.trans ((Still.drew _).below _))).mono ?_; rintro e w1 ⟨v, rfl, h1⟩; subst w1))
  go_wp2_with fail
  exact bodyPost_ret (results_cell_tmp Try.results90 _ _ w.heap.size 41 _ (0, 0) _ rfl HR.out Try.underlying41 rfl size41) rfl ⟨rfl, HB.out.trans ((Still.drew _).below _)⟩

set_option maxRecDepth 100000 in
set_option maxHeartbeats 1600000 in
theorem itemRead_yes1 (fn b off : Nat) (k : Int) (t : TypeId) (u : Value) (RK RN : Int) (f : Nat) (RZ : List Int) {w : World} (c0 : w.cell? ⟨b, off, none⟩ = some (.int .u8 k)) (hk : 0 ≤ k ∧ k ≤ 255) (hbd : ∀ i, 0 ≤ RZ.getD i 0 ∧ RZ.getD i 0 ≤ 255) 
    (C : ∀ W : World, Below w.heap.size w W → Calls Try.prog 94 #[.int .i64 k, .slice (some ⟨b, off, none⟩) 0 0, .func (.func fn) #[] #[]] W fun e w' => e = .returned (.tuple #[.iface t u, .bool true]) ∧ w' = W)
    (I : ∀ W : World, Below w.heap.size w W → Calls Try.prog 95 #[.iface t u] W fun e w' => ∃ s, e = .returned (.agg #[.int .i64 RK, .int .i64 RN, .float .f64 f, s]) ∧ w'.ownsRow W.heap.size 5 1 s RZ.length (bys RZ) ∧ Below W.heap.size W w') :
    Calls Try.prog 90 #[.slice (some ⟨b, off, none⟩) 1 1, .func (.func fn) #[] #[]] w fun e w' => ∃ s, e = .returned (.tuple #[.agg #[.int .i64 RK, .int .i64 RN, .float .f64 f, s], .bool true]) ∧ w'.ownsRow w.heap.size 5 1 s RZ.length (bys RZ) ∧ Below w.heap.size w w' := by
  have hw : IntKind.i64.wrap k = k := by rw [IntKind.wrap_i64]; omega
  have HC := hid C
  have HI := hid I
  have d0 := cell_oldx (w := w) (.cells #[.int .i64 0, .int .i64 0, .float .f64 0, .slice none 0 0] 41) c0
  have R := heap_alloc_new w (.cells #[.int .i64 0, .int .i64 0, .float .f64 0, .slice none 0 0] 41)
  have HB := hid (Below.alloc1 w (.cells #[.int .i64 0, .int .i64 0, .float .f64 0, .slice none 0 0] 41))
  have HZ := hid (alloc_size w (.cells #[.int .i64 0, .int .i64 0, .float .f64 0, .slice none 0 0] 41))
  have HR := hid R
  clear R C I c0 hk
  go_enter Try.func90, Try.ntmps90
  go_wp2_with fail
  go_region_held3 (fun W => W.cell? ⟨b, off, none⟩ = some (.int .u8 k))
    (first | exact d0 | (simpa using d0))
    (first
      | (go_at_call 94; refine (HC.out _ (HB.out.trans ((Still.drew _).below _))).mono ?_; rintro e w1 ⟨rfl, h1⟩; subst w1))
  go_wp2_with fail
  refine (HI.out _ (HB.out.trans ((Still.drew _).below _))).mono ?_
  rintro e w1 ⟨s, rfl, o, b1⟩
  obtain ⟨ad1, cap1, rfl, r1, _⟩ := Reads.own o hbd
  have z := HZ.out
  have S1 : w1.heap[w.heap.size]? = _ := (b1.block w.heap.size (by show w.heap.size < (w.alloc _).heap.size; omega)).trans HR.out
  have B1 : Below w.heap.size w w1 := (HB.out.trans ((Still.drew _).below _)).trans (b1.mono (by show w.heap.size ≤ (w.alloc _).heap.size; omega))
  have T1 := hid S1
  have O := hid (show w1.ownsRow (w.heap.size + 1) 5 1 (.slice ad1 RZ.length cap1) RZ.length (bys RZ) by rw [← z]; exact o)
  clear S1 b1 z HZ HB HR o r1 d0
  go_wp2_with (first
    | (refine wpList_store_row rfl 41 (.tmp 4) (.tmp 27) rfl w.heap.size #[.int .i64 RK, .int .i64 RN, .float .f64 f, .slice ad1 RZ.length cap1] rfl rfl 41 _ T1.out ?s1 ?s2 ?s3 ?_))
  case s1 => exact size41
  case s2 => rfl
  case s3 => simp [Value.oneCell']
  refine bodyPost_ret (results_cell_tmp Try.results90 _ _ w.heap.size 41 _ (0, 0) _ rfl (setRow_heap _ _ _ _ _ _ T1.out) Try.underlying41 rfl size41) rfl ⟨_, rfl, owns_base (owns_at O.out fun k hk => ?_) (by omega), below_setRow B1 (by omega) _⟩
  rw [setRow_other _ _ _ _ (by omega)]

set_option maxRecDepth 100000 in
set_option maxHeartbeats 1600000 in
theorem itemRead_no (fn b off n cap : Nat) (hcap : n ≤ cap) (hc2 : 2 ≤ cap) (k : Int) {w : World} (c0 : w.cell? ⟨b, off, none⟩ = some (.int .u8 k)) (hk : 0 ≤ k ∧ k ≤ 255) (h1 : 1 ≤ n) (hm : n ≤ 1048576) 
    (C : ∀ W : World, Below w.heap.size w W → Calls Try.prog 94 #[.int .i64 k, .slice (some ⟨b, off + 1, none⟩) (n - 1) (cap - 1), .func (.func fn) #[] #[]] W fun e w' => ∃ v, e = .returned (.tuple #[v, .bool false]) ∧ w' = W) :
    Calls Try.prog 90 #[.slice (some ⟨b, off, none⟩) n cap, .func (.func fn) #[] #[]] w fun e w' => e = .returned (.tuple #[.agg #[.int .i64 0, .int .i64 0, .float .f64 0, .slice none 0 0], .bool false]) ∧ Below w.heap.size w w' := by
  have i1 : (1 : Int) ≤ (n : Int) := by omega
  have i3 : ((n : Int) == 0) = false := beq_eq_false_iff_ne.2 (by omega)
  have i4 : (0 : Int) < (n : Int) := by omega
  have i6 : ¬ (n : Int) < 1 := by omega
  have i8 : 0 < n := by omega
  have i10 : ¬ n = 0 := by omega
  have i12 : ¬ cap = 1 := by omega
  have j1 : (n : Int) ≤ (cap : Int) := by omega
  have j3 : ¬ cap = 0 := by omega
  have hst := fun w a m => run_store Try.prog w a (.float .f64 0) m rfl
  have hw : IntKind.i64.wrap k = k := by rw [IntKind.wrap_i64]; omega
  have HC := hid C
  have d0 := cell_oldx (w := w) (.cells #[.int .i64 0, .int .i64 0, .float .f64 0, .slice none 0 0] 41) c0
  have R := heap_alloc_new w (.cells #[.int .i64 0, .int .i64 0, .float .f64 0, .slice none 0 0] 41)
  have HB := hid (Below.alloc1 w (.cells #[.int .i64 0, .int .i64 0, .float .f64 0, .slice none 0 0] 41))
  have HZ := hid (alloc_size w (.cells #[.int .i64 0, .int .i64 0, .float .f64 0, .slice none 0 0] 41))
  have HR := hid R
  clear R C c0 hk h1
  go_enter Try.func90, Try.ntmps90
  go_wp2_with fail
  go_region_held3 (fun W => W.cell? ⟨b, off, none⟩ = some (.int .u8 k))
    (first | exact d0 | (simpa using d0))
    (first
      | (go_at_call 94; refine (HC.out _ (HB.out.trans ((Still.drew _).below _))).mono ?_; rintro e w1 ⟨v, rfl, h1⟩; subst w1))
  go_wp2_with fail
  exact bodyPost_ret (results_cell_tmp Try.results90 _ _ w.heap.size 41 _ (0, 0) _ rfl HR.out Try.underlying41 rfl size41) rfl ⟨rfl, HB.out.trans ((Still.drew _).below _)⟩

set_option maxRecDepth 100000 in
set_option maxHeartbeats 1600000 in
theorem itemRead_yes (fn b off n cap : Nat) (hcap : n ≤ cap) (hc2 : 2 ≤ cap) (k : Int) (t : TypeId) (u : Value) (RK RN : Int) (f : Nat) (RZ : List Int) {w : World} (c0 : w.cell? ⟨b, off, none⟩ = some (.int .u8 k)) (hk : 0 ≤ k ∧ k ≤ 255) (h1 : 1 ≤ n) (hm : n ≤ 1048576) (hbd : ∀ i, 0 ≤ RZ.getD i 0 ∧ RZ.getD i 0 ≤ 255) 
    (C : ∀ W : World, Below w.heap.size w W → Calls Try.prog 94 #[.int .i64 k, .slice (some ⟨b, off + 1, none⟩) (n - 1) (cap - 1), .func (.func fn) #[] #[]] W fun e w' => e = .returned (.tuple #[.iface t u, .bool true]) ∧ w' = W)
    (I : ∀ W : World, Below w.heap.size w W → Calls Try.prog 95 #[.iface t u] W fun e w' => ∃ s, e = .returned (.agg #[.int .i64 RK, .int .i64 RN, .float .f64 f, s]) ∧ w'.ownsRow W.heap.size 5 1 s RZ.length (bys RZ) ∧ Below W.heap.size W w') :
    Calls Try.prog 90 #[.slice (some ⟨b, off, none⟩) n cap, .func (.func fn) #[] #[]] w fun e w' => ∃ s, e = .returned (.tuple #[.agg #[.int .i64 RK, .int .i64 RN, .float .f64 f, s], .bool true]) ∧ w'.ownsRow w.heap.size 5 1 s RZ.length (bys RZ) ∧ Below w.heap.size w w' := by
  have i1 : (1 : Int) ≤ (n : Int) := by omega
  have i3 : ((n : Int) == 0) = false := beq_eq_false_iff_ne.2 (by omega)
  have i4 : (0 : Int) < (n : Int) := by omega
  have i6 : ¬ (n : Int) < 1 := by omega
  have i8 : 0 < n := by omega
  have i10 : ¬ n = 0 := by omega
  have i12 : ¬ cap = 1 := by omega
  have j1 : (n : Int) ≤ (cap : Int) := by omega
  have j3 : ¬ cap = 0 := by omega
  have hw : IntKind.i64.wrap k = k := by rw [IntKind.wrap_i64]; omega
  have HC := hid C
  have HI := hid I
  have d0 := cell_oldx (w := w) (.cells #[.int .i64 0, .int .i64 0, .float .f64 0, .slice none 0 0] 41) c0
  have R := heap_alloc_new w (.cells #[.int .i64 0, .int .i64 0, .float .f64 0, .slice none 0 0] 41)
  have HB := hid (Below.alloc1 w (.cells #[.int .i64 0, .int .i64 0, .float .f64 0, .slice none 0 0] 41))
  have HZ := hid (alloc_size w (.cells #[.int .i64 0, .int .i64 0, .float .f64 0, .slice none 0 0] 41))
  have HR := hid R
  clear R C I c0 hk h1
  go_enter Try.func90, Try.ntmps90
  go_wp2_with fail
  go_region_held3 (fun W => W.cell? ⟨b, off, none⟩ = some (.int .u8 k))
    (first | exact d0 | (simpa using d0))
    (first
      | (go_at_call 94; refine (HC.out _ (HB.out.trans ((Still.drew _).below _))).mono ?_; rintro e w1 ⟨rfl, h1⟩; subst w1))
  go_wp2_with fail
  refine (HI.out _ (HB.out.trans ((Still.drew _).below _))).mono ?_
  rintro e w1 ⟨s, rfl, o, b1⟩
  obtain ⟨ad1, cap1, rfl, r1, _⟩ := Reads.own o hbd
  have z := HZ.out
  have S1 : w1.heap[w.heap.size]? = _ := (b1.block w.heap.size (by show w.heap.size < (w.alloc _).heap.size; omega)).trans HR.out
  have B1 : Below w.heap.size w w1 := (HB.out.trans ((Still.drew _).below _)).trans (b1.mono (by show w.heap.size ≤ (w.alloc _).heap.size; omega))
  have T1 := hid S1
  have O := hid (show w1.ownsRow (w.heap.size + 1) 5 1 (.slice ad1 RZ.length cap1) RZ.length (bys RZ) by rw [← z]; exact o)
  clear S1 b1 z HZ HB HR o r1 d0
  go_wp2_with (first
    | (refine wpList_store_row rfl 41 (.tmp 4) (.tmp 27) rfl w.heap.size #[.int .i64 RK, .int .i64 RN, .float .f64 f, .slice ad1 RZ.length cap1] rfl rfl 41 _ T1.out ?s1 ?s2 ?s3 ?_))
  case s1 => exact size41
  case s2 => rfl
  case s3 => simp [Value.oneCell']
  refine bodyPost_ret (results_cell_tmp Try.results90 _ _ w.heap.size 41 _ (0, 0) _ rfl (setRow_heap _ _ _ _ _ _ T1.out) Try.underlying41 rfl size41) rfl ⟨_, rfl, owns_base (owns_at O.out fun k hk => ?_) (by omega), below_setRow B1 (by omega) _⟩
  rw [setRow_other _ _ _ _ (by omega)]

set_option maxRecDepth 100000 in
theorem itemRead_nil (fn : Nat) (ad : Option Addr) (cap : Nat) (w : World) :
    Calls Try.prog 90 #[.slice ad 0 cap, .func (.func fn) #[] #[]] w fun e w' => e = .returned (.tuple #[.agg #[.int .i64 0, .int .i64 0, .float .f64 0, .slice none 0 0], .bool false]) ∧ Below w.heap.size w w' := by
  have hst := fun w a m => run_store Try.prog w a (.float .f64 0) m rfl
  have R := heap_alloc_new w (.cells #[.int .i64 0, .int .i64 0, .float .f64 0, .slice none 0 0] 41)
  have HB := hid (Below.alloc1 w (.cells #[.int .i64 0, .int .i64 0, .float .f64 0, .slice none 0 0] 41))
  have HR := hid R
  clear R
  go_enter Try.func90, Try.ntmps90
  go_wp2_with fail
  exact bodyPost_ret (results_cell_tmp Try.results90 _ _ w.heap.size 41 _ (0, 0) _ rfl HR.out Try.underlying41 rfl size41) rfl ⟨rfl, HB.out⟩
end Go.Proofs.Ytebhipicfgnajaa
