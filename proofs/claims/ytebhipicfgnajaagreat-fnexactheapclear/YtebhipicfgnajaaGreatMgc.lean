/- Texts of this proof in one: Ir Imr Sr0 Krp Num Val Tp Nr Tb To Put Tby Tpb Tr Pp Hf10 Pf Hz10. -/
import Derived.Test.YtebhipicfgnajaaGreatMgb
import Derived.Deep.RegionHeld3
import Derived.Laws.AppendOwnNone
import Derived.Test.YtebhipicfgnajaaGreatMga
import Derived.WalkLawsBesides
/- itemRead of the program: what is read of bytes. -/




namespace Go.Proofs.YtebhipicfgnajaaGreat
open Go.RowKit

/-- What is read of bytes, floats by d. -/
def readR (d : Nat → Option Nat) : List Int → Int × Int × Nat × List Int × Bool
  | [] => (0, 0, 0, [], false)
  | k :: ts =>
    if k = 3 then (if ts.length ≤ 40 then (3, 0, 0, ts, true) else (0, 0, 0, [], false))
    else if ts.length = 8 then
      if k = 1 then (1, (low ts : Int) - 9223372036854775808, 0, [], true)
      else if k = 2 then (match d (low ts) with | some y => (2, 0, y, [], true) | none => (0, 0, 0, [], false))
      else (0, 0, 0, [], false)
    else (0, 0, 0, [], false)

/-- Where the rest of a list begins. -/
def tl (b off cap : Nat) : Option Addr := if cap = 1 then some ⟨b, off, none⟩ else some ⟨b, off + 1, none⟩

theorem Reads.rest {w : World} {b off n cap : Nat} {k : Int} {ts : List Int} (h : Reads w (some ⟨b, off, none⟩) n (k :: ts)) (hc : n ≤ cap) : Reads w (tl b off cap) (n - 1) ts := by
  have hl := h.len
  simp at hl
  refine ⟨by omega, ?_, fun i => h.bd (i + 1)⟩
  rcases h.cells with h0 | ⟨b', off', e, hcc⟩
  · omega
  · cases e
    by_cases h1 : cap = 1
    · exact .inl (by omega)
    · refine .inr ⟨_, _, by rw [tl, if_neg h1], fun i hi => ?_⟩
      have := hcc (i + 1) (by omega)
      rw [show off + (i + 1) = off + 1 + i by omega] at this
      exact this

theorem results_cell_tmp {P : Program} {fn : Func} {p q : Tmp} {ty : TypeId} (h : fn.results = #[.cell p ty, .tmp q]) (tmps : Array Value) (w : World) (g : Nat) (t : TypeId) (cs : Array Value) (fr : Nat × Nat) (d : TypeDesc)
    (hp : tmps.getD p undef = .pointer (some ⟨g, 0, none⟩)) (hg : w.heap[g]? = some (.cells cs t fr))
    (hu : P.underlying ty = some d) (hd : (match d with | .struct _ | .array _ _ => true | _ => false) = true) (hi : (P.info? ty).map (·.size) = some cs.size) :
    (results fn tmps).run P w = .ok (.tuple #[.agg cs, tmps.getD q undef]) w := by
  have hp' : tmps[p]?.getD undef = .pointer (some ⟨g, 0, none⟩) := by simpa using hp
  simp [results, h, hp', asAddr, run_loadVar_row w g t ty cs fr d hg hu hd hi]

set_option maxRecDepth 100000 in
set_option maxHeartbeats 1600000 in
theorem itemRead_no1 (fn b off : Nat) (k : Int) {w : World} (c0 : w.cell? ⟨b, off, none⟩ = some (.int .u8 k)) (hk : 0 ≤ k ∧ k ≤ 255) 
    (C : ∀ W : World, Below w.heap.size w W → Calls Tryz.prog 192 #[.int .i64 k, .slice (some ⟨b, off, none⟩) 0 0, .func (.func fn) #[] #[]] W fun e w' => ∃ v, e = .returned (.tuple #[v, .bool false]) ∧ w' = W) :
    Calls Tryz.prog 186 #[.slice (some ⟨b, off, none⟩) 1 1, .func (.func fn) #[] #[]] w fun e w' => e = .returned (.tuple #[.agg #[.int .i64 0, .int .i64 0, .float .f64 0, .slice none 0 0], .bool false]) ∧ Below w.heap.size w w' := by
  have hst := fun w a m => run_store Tryz.prog w a (.float .f64 0) m rfl
  have hw : IntKind.i64.wrap k = k := by rw [IntKind.wrap_i64]; omega
  have HC := hid C
  have d0 := cell_oldx (w := w) (.cells #[.int .i64 0, .int .i64 0, .float .f64 0, .slice none 0 0] 29) c0
  have R := heap_alloc_new w (.cells #[.int .i64 0, .int .i64 0, .float .f64 0, .slice none 0 0] 29)
  have HB := hid (Below.alloc1 w (.cells #[.int .i64 0, .int .i64 0, .float .f64 0, .slice none 0 0] 29))
  have HZ := hid (alloc_size w (.cells #[.int .i64 0, .int .i64 0, .float .f64 0, .slice none 0 0] 29))
  have HR := hid R
  clear R C c0 hk
  go_enter Tryz.func186, Tryz.ntmps186
  go_wp2_with fail
  go_region_held3 (fun W => W.cell? ⟨b, off, none⟩ = some (.int .u8 k))
    (first | exact d0 | (simpa using d0))
    (first
      | (go_at_call 192; refine (HC.out _ (HB.out.trans ((Still.drew _).below _))).mono ?_; rintro e w1 ⟨v, rfl, h1⟩; subst w1))
  go_wp2_with fail
  exact bodyPost_ret (results_cell_tmp Tryz.results186 _ _ w.heap.size 29 _ (0, 0) _ rfl HR.out Tryz.underlying29 rfl size29) rfl ⟨rfl, HB.out.trans ((Still.drew _).below _)⟩

set_option maxRecDepth 100000 in
set_option maxHeartbeats 1600000 in
theorem itemRead_yes1 (fn b off : Nat) (k : Int) (t : TypeId) (u : Value) (RK RN : Int) (f : Nat) (RZ : List Int) {w : World} (c0 : w.cell? ⟨b, off, none⟩ = some (.int .u8 k)) (hk : 0 ≤ k ∧ k ≤ 255) (hbd : ∀ i, 0 ≤ RZ.getD i 0 ∧ RZ.getD i 0 ≤ 255) 
    (C : ∀ W : World, Below w.heap.size w W → Calls Tryz.prog 192 #[.int .i64 k, .slice (some ⟨b, off, none⟩) 0 0, .func (.func fn) #[] #[]] W fun e w' => e = .returned (.tuple #[.iface t u, .bool true]) ∧ w' = W)
    (I : ∀ W : World, Below w.heap.size w W → Calls Tryz.prog 193 #[.iface t u] W fun e w' => ∃ s, e = .returned (.agg #[.int .i64 RK, .int .i64 RN, .float .f64 f, s]) ∧ w'.ownsRow W.heap.size 5 1 s RZ.length (bys RZ) ∧ Below W.heap.size W w') :
    Calls Tryz.prog 186 #[.slice (some ⟨b, off, none⟩) 1 1, .func (.func fn) #[] #[]] w fun e w' => ∃ s, e = .returned (.tuple #[.agg #[.int .i64 RK, .int .i64 RN, .float .f64 f, s], .bool true]) ∧ w'.ownsRow w.heap.size 5 1 s RZ.length (bys RZ) ∧ Below w.heap.size w w' := by
  have hw : IntKind.i64.wrap k = k := by rw [IntKind.wrap_i64]; omega
  have HC := hid C
  have HI := hid I
  have d0 := cell_oldx (w := w) (.cells #[.int .i64 0, .int .i64 0, .float .f64 0, .slice none 0 0] 29) c0
  have R := heap_alloc_new w (.cells #[.int .i64 0, .int .i64 0, .float .f64 0, .slice none 0 0] 29)
  have HB := hid (Below.alloc1 w (.cells #[.int .i64 0, .int .i64 0, .float .f64 0, .slice none 0 0] 29))
  have HZ := hid (alloc_size w (.cells #[.int .i64 0, .int .i64 0, .float .f64 0, .slice none 0 0] 29))
  have HR := hid R
  clear R C I c0 hk
  go_enter Tryz.func186, Tryz.ntmps186
  go_wp2_with fail
  go_region_held3 (fun W => W.cell? ⟨b, off, none⟩ = some (.int .u8 k))
    (first | exact d0 | (simpa using d0))
    (first
      | (go_at_call 192; refine (HC.out _ (HB.out.trans ((Still.drew _).below _))).mono ?_; rintro e w1 ⟨rfl, h1⟩; subst w1))
  go_wp2_with fail
  refine (HI.out _ (HB.out.trans ((Still.drew _).below _))).mono ?_
  rintro e w1 ⟨s, rfl, o, b1⟩
  obtain ⟨ad1, cap1, rfl, r1, _⟩ := Reads.own o hbd
  have z := HZ.out
  have S1 : w1.heap[w.heap.size]? = _ := (b1.block w.heap.size (by show w.heap.size < (w.alloc _).heap.size; omega)).trans HR.out
  have B1 : Below w.heap.size w w1 := (HB.out.trans ((Still.drew _).below _)).trans (b1.mono (by show w.heap.size ≤ (w.alloc _).heap.size; omega))
  have T1 := hid S1
  have O := hid (show w1.ownsRow (w.heap.size + 1) 5 1 (.slice ad1 RZ.length cap1) RZ.length (bys RZ) by rw [← z]; exact o)
  clear S1 b1 z HZ HB HR o r1 d0
  go_wp2_with (first
    | (refine wpList_store_row rfl 29 (.tmp 4) (.tmp 27) rfl w.heap.size #[.int .i64 RK, .int .i64 RN, .float .f64 f, .slice ad1 RZ.length cap1] rfl rfl 29 _ T1.out ?s1 ?s2 ?s3 ?_))
  case s1 => exact size29
  case s2 => rfl
  case s3 => simp [Value.oneCell']
  refine bodyPost_ret (results_cell_tmp Tryz.results186 _ _ w.heap.size 29 _ (0, 0) _ rfl (setRow_heap _ _ _ _ _ _ T1.out) Tryz.underlying29 rfl size29) rfl ⟨_, rfl, owns_base (owns_at O.out fun k hk => ?_) (by omega), below_setRow B1 (by omega) _⟩
  rw [setRow_other _ _ _ _ (by omega)]

set_option maxRecDepth 100000 in
set_option maxHeartbeats 1600000 in
theorem itemRead_no (fn b off n cap : Nat) (hcap : n ≤ cap) (hc2 : 2 ≤ cap) (k : Int) {w : World} (c0 : w.cell? ⟨b, off, none⟩ = some (.int .u8 k)) (hk : 0 ≤ k ∧ k ≤ 255) (h1 : 1 ≤ n) (hm : n ≤ 1048576) 
    (C : ∀ W : World, Below w.heap.size w W → Calls Tryz.prog 192 #[.int .i64 k, .slice (some ⟨b, off + 1, none⟩) (n - 1) (cap - 1), .func (.func fn) #[] #[]] W fun e w' => ∃ v, e = .returned (.tuple #[v, .bool false]) ∧ w' = W) :
    Calls Tryz.prog 186 #[.slice (some ⟨b, off, none⟩) n cap, .func (.func fn) #[] #[]] w fun e w' => e = .returned (.tuple #[.agg #[.int .i64 0, .int .i64 0, .float .f64 0, .slice none 0 0], .bool false]) ∧ Below w.heap.size w w' := by
  have i1 : (1 : Int) ≤ (n : Int) := by omega
  have i3 : ((n : Int) == 0) = false := beq_eq_false_iff_ne.2 (by omega)
  have i4 : (0 : Int) < (n : Int) := by omega
  have i6 : ¬ (n : Int) < 1 := by omega
  have i8 : 0 < n := by omega
  have i10 : ¬ n = 0 := by omega
  have i12 : ¬ cap = 1 := by omega
  have j1 : (n : Int) ≤ (cap : Int) := by omega
  have j3 : ¬ cap = 0 := by omega
  have hst := fun w a m => run_store Tryz.prog w a (.float .f64 0) m rfl
  have hw : IntKind.i64.wrap k = k := by rw [IntKind.wrap_i64]; omega
  have HC := hid C
  have d0 := cell_oldx (w := w) (.cells #[.int .i64 0, .int .i64 0, .float .f64 0, .slice none 0 0] 29) c0
  have R := heap_alloc_new w (.cells #[.int .i64 0, .int .i64 0, .float .f64 0, .slice none 0 0] 29)
  have HB := hid (Below.alloc1 w (.cells #[.int .i64 0, .int .i64 0, .float .f64 0, .slice none 0 0] 29))
  have HZ := hid (alloc_size w (.cells #[.int .i64 0, .int .i64 0, .float .f64 0, .slice none 0 0] 29))
  have HR := hid R
  clear R C c0 hk h1
  go_enter Tryz.func186, Tryz.ntmps186
  go_wp2_with fail
  go_region_held3 (fun W => W.cell? ⟨b, off, none⟩ = some (.int .u8 k))
    (first | exact d0 | (simpa using d0))
    (first
      | (go_at_call 192; refine (HC.out _ (HB.out.trans ((Still.drew _).below _))).mono ?_; rintro e w1 ⟨v, rfl, h1⟩; subst w1))
  go_wp2_with fail
  exact bodyPost_ret (results_cell_tmp Tryz.results186 _ _ w.heap.size 29 _ (0, 0) _ rfl HR.out Tryz.underlying29 rfl size29) rfl ⟨rfl, HB.out.trans ((Still.drew _).below _)⟩

set_option maxRecDepth 100000 in
set_option maxHeartbeats 1600000 in
theorem itemRead_yes (fn b off n cap : Nat) (hcap : n ≤ cap) (hc2 : 2 ≤ cap) (k : Int) (t : TypeId) (u : Value) (RK RN : Int) (f : Nat) (RZ : List Int) {w : World} (c0 : w.cell? ⟨b, off, none⟩ = some (.int .u8 k)) (hk : 0 ≤ k ∧ k ≤ 255) (h1 : 1 ≤ n) (hm : n ≤ 1048576) (hbd : ∀ i, 0 ≤ RZ.getD i 0 ∧ RZ.getD i 0 ≤ 255) 
    (C : ∀ W : World, Below w.heap.size w W → Calls Tryz.prog 192 #[.int .i64 k, .slice (some ⟨b, off + 1, none⟩) (n - 1) (cap - 1), .func (.func fn) #[] #[]] W fun e w' => e = .returned (.tuple #[.iface t u, .bool true]) ∧ w' = W)
    (I : ∀ W : World, Below w.heap.size w W → Calls Tryz.prog 193 #[.iface t u] W fun e w' => ∃ s, e = .returned (.agg #[.int .i64 RK, .int .i64 RN, .float .f64 f, s]) ∧ w'.ownsRow W.heap.size 5 1 s RZ.length (bys RZ) ∧ Below W.heap.size W w') :
    Calls Tryz.prog 186 #[.slice (some ⟨b, off, none⟩) n cap, .func (.func fn) #[] #[]] w fun e w' => ∃ s, e = .returned (.tuple #[.agg #[.int .i64 RK, .int .i64 RN, .float .f64 f, s], .bool true]) ∧ w'.ownsRow w.heap.size 5 1 s RZ.length (bys RZ) ∧ Below w.heap.size w w' := by
  have i1 : (1 : Int) ≤ (n : Int) := by omega
  have i3 : ((n : Int) == 0) = false := beq_eq_false_iff_ne.2 (by omega)
  have i4 : (0 : Int) < (n : Int) := by omega
  have i6 : ¬ (n : Int) < 1 := by omega
  have i8 : 0 < n := by omega
  have i10 : ¬ n = 0 := by omega
  have i12 : ¬ cap = 1 := by omega
  have j1 : (n : Int) ≤ (cap : Int) := by omega
  have j3 : ¬ cap = 0 := by omega
  have hw : IntKind.i64.wrap k = k := by rw [IntKind.wrap_i64]; omega
  have HC := hid C
  have HI := hid I
  have d0 := cell_oldx (w := w) (.cells #[.int .i64 0, .int .i64 0, .float .f64 0, .slice none 0 0] 29) c0
  have R := heap_alloc_new w (.cells #[.int .i64 0, .int .i64 0, .float .f64 0, .slice none 0 0] 29)
  have HB := hid (Below.alloc1 w (.cells #[.int .i64 0, .int .i64 0, .float .f64 0, .slice none 0 0] 29))
  have HZ := hid (alloc_size w (.cells #[.int .i64 0, .int .i64 0, .float .f64 0, .slice none 0 0] 29))
  have HR := hid R
  clear R C I c0 hk h1
  go_enter Tryz.func186, Tryz.ntmps186
  go_wp2_with fail
  go_region_held3 (fun W => W.cell? ⟨b, off, none⟩ = some (.int .u8 k))
    (first | exact d0 | (simpa using d0))
    (first
      | (go_at_call 192; refine (HC.out _ (HB.out.trans ((Still.drew _).below _))).mono ?_; rintro e w1 ⟨rfl, h1⟩; subst w1))
  go_wp2_with fail
  refine (HI.out _ (HB.out.trans ((Still.drew _).below _))).mono ?_
  rintro e w1 ⟨s, rfl, o, b1⟩
  obtain ⟨ad1, cap1, rfl, r1, _⟩ := Reads.own o hbd
  have z := HZ.out
  have S1 : w1.heap[w.heap.size]? = _ := (b1.block w.heap.size (by show w.heap.size < (w.alloc _).heap.size; omega)).trans HR.out
  have B1 : Below w.heap.size w w1 := (HB.out.trans ((Still.drew _).below _)).trans (b1.mono (by show w.heap.size ≤ (w.alloc _).heap.size; omega))
  have T1 := hid S1
  have O := hid (show w1.ownsRow (w.heap.size + 1) 5 1 (.slice ad1 RZ.length cap1) RZ.length (bys RZ) by rw [← z]; exact o)
  clear S1 b1 z HZ HB HR o r1 d0
  go_wp2_with (first
    | (refine wpList_store_row rfl 29 (.tmp 4) (.tmp 27) rfl w.heap.size #[.int .i64 RK, .int .i64 RN, .float .f64 f, .slice ad1 RZ.length cap1] rfl rfl 29 _ T1.out ?s1 ?s2 ?s3 ?_))
  case s1 => exact size29
  case s2 => rfl
  case s3 => simp [Value.oneCell']
  refine bodyPost_ret (results_cell_tmp Tryz.results186 _ _ w.heap.size 29 _ (0, 0) _ rfl (setRow_heap _ _ _ _ _ _ T1.out) Tryz.underlying29 rfl size29) rfl ⟨_, rfl, owns_base (owns_at O.out fun k hk => ?_) (by omega), below_setRow B1 (by omega) _⟩
  rw [setRow_other _ _ _ _ (by omega)]

set_option maxRecDepth 100000 in
theorem itemRead_nil (fn : Nat) (ad : Option Addr) (cap : Nat) (w : World) :
    Calls Tryz.prog 186 #[.slice ad 0 cap, .func (.func fn) #[] #[]] w fun e w' => e = .returned (.tuple #[.agg #[.int .i64 0, .int .i64 0, .float .f64 0, .slice none 0 0], .bool false]) ∧ Below w.heap.size w w' := by
  have hst := fun w a m => run_store Tryz.prog w a (.float .f64 0) m rfl
  have R := heap_alloc_new w (.cells #[.int .i64 0, .int .i64 0, .float .f64 0, .slice none 0 0] 29)
  have HB := hid (Below.alloc1 w (.cells #[.int .i64 0, .int .i64 0, .float .f64 0, .slice none 0 0] 29))
  have HR := hid R
  clear R
  go_enter Tryz.func186, Tryz.ntmps186
  go_wp2_with fail
  exact bodyPost_ret (results_cell_tmp Tryz.results186 _ _ w.heap.size 29 _ (0, 0) _ rfl HR.out Tryz.underlying29 rfl size29) rfl ⟨rfl, HB.out⟩
end Go.Proofs.YtebhipicfgnajaaGreat
/- KeyRead and ValueRead of the program. -/

namespace Go.Proofs.YtebhipicfgnajaaGreat
open Go.RowKit

theorem readR_bd {d : Nat → Option Nat} {zs : List Int} {RK RN : Int} {RF : Nat} {RZ : List Int} {ok : Bool} (hR : readR d zs = (RK, RN, RF, RZ, ok)) (hz : ∀ i, 0 ≤ zs.getD i 0 ∧ zs.getD i 0 ≤ 255) (hl : zs.length ≤ 1048576) : (∀ i, 0 ≤ RZ.getD i 0 ∧ RZ.getD i 0 ≤ 255) ∧ RZ.length ≤ 1048576 := by
  have key : RZ = [] ∨ ∃ k, zs = k :: RZ := by
    cases zs with
    | nil =>
      simp only [readR, Prod.mk.injEq] at hR
      exact .inl hR.2.2.2.1.symm
    | cons k ts =>
      simp only [readR] at hR
      split at hR
      · split at hR
        · simp only [Prod.mk.injEq] at hR
          exact .inr ⟨k, by rw [hR.2.2.2.1]⟩
        · simp only [Prod.mk.injEq] at hR
          exact .inl hR.2.2.2.1.symm
      · split at hR
        · split at hR
          · simp only [Prod.mk.injEq] at hR
            exact .inl hR.2.2.2.1.symm
          · split at hR
            · split at hR
              · simp only [Prod.mk.injEq] at hR
                exact .inl hR.2.2.2.1.symm
              · simp only [Prod.mk.injEq] at hR
                exact .inl hR.2.2.2.1.symm
            · simp only [Prod.mk.injEq] at hR
              exact .inl hR.2.2.2.1.symm
        · simp only [Prod.mk.injEq] at hR
          exact .inl hR.2.2.2.1.symm
  rcases key with rfl | ⟨k, rfl⟩
  · exact ⟨fun i => by simp, by simp⟩
  · exact ⟨fun i => hz (i + 1), by simp at hl; omega⟩

theorem itemRead_K {ad : Option Addr} {n : Nat} (cap : Nat) (hcap : n ≤ cap) {zs : List Int} {w : World} (h : Reads w ad n zs) (hn : n ≤ 1048576) {RK RN : Int} {RF : Nat} {RZ : List Int} {ok : Bool} (hR : readR unfK zs = (RK, RN, RF, RZ, ok)) :
    Calls Tryz.prog 186 #[.slice ad n cap, .func (.func 187) #[] #[]] w fun e w' => ∃ (f' : Nat) (v : Value), e = .returned (.tuple #[.agg #[.int .i64 RK, .int .i64 RN, .float .f64 f', v], .bool ok]) ∧ f' < 18446744073709551616 ∧ Hid (Same RF f') ∧ w'.ownsRow w.heap.size 5 1 v RZ.length (bys RZ) ∧ Below w.heap.size w w' := by
  have hl := h.len
  have hbdz := h.bd
  have no : ∀ e w', (e = Ending.returned (.tuple #[.agg #[.int .i64 0, .int .i64 0, .float .f64 0, .slice none 0 0], .bool false]) ∧ Below w.heap.size w w') → (0, 0, 0, [], false) = (RK, RN, RF, RZ, ok) → ∃ (f' : Nat) (v : Value), e = .returned (.tuple #[.agg #[.int .i64 RK, .int .i64 RN, .float .f64 f', v], .bool ok]) ∧ f' < 18446744073709551616 ∧ Hid (Same RF f') ∧ w'.ownsRow w.heap.size 5 1 v RZ.length (bys RZ) ∧ Below w.heap.size w w' := by
    rintro e w' ⟨rfl, b⟩ hR
    simp only [Prod.mk.injEq] at hR
    obtain ⟨rfl, rfl, rfl, rfl, rfl⟩ := hR
    exact ⟨_, _, rfl, by omega, hid (Same.refl _), World.ownsRow_nil _ _ _ _, b⟩
  cases zs with
  | nil =>
    obtain rfl : n = 0 := by simpa using hl.symm
    exact (itemRead_nil 187 ad cap w).mono fun e w' hh => no e w' hh hR
  | cons k ts =>
    have hl' : ts.length + 1 = n := by simpa using hl
    obtain ⟨b, off, rfl⟩ := h.pos (by omega)
    have hk : 0 ≤ k ∧ k ≤ 255 := hbdz 0
    have c0 : w.cell? ⟨b, off, none⟩ = some (.int .u8 k) := by
      rcases h.cells with h0 | ⟨b', off', e, hcc⟩
      · omega
      · cases e; exact hcc 0 (by omega)
    have rd := h.rest hcap
    have hbt : ∀ i, 0 ≤ ts.getD i 0 ∧ ts.getD i 0 ≤ 255 := fun i => hbdz (i + 1)
    simp only [readR] at hR
    by_cases h1 : cap = 1
    · subst h1
      obtain rfl : n = 1 := by omega
      obtain rfl : ts = [] := List.eq_nil_of_length_eq_zero (by omega)
      rw [show tl b off 1 = some ⟨b, off, none⟩ from rfl] at rd
      by_cases k3 : k = 3
      · subst k3
        rw [if_pos rfl, if_pos (by simp)] at hR
        simp only [Prod.mk.injEq] at hR
        obtain ⟨rfl, rfl, rfl, rfl, rfl⟩ := hR
        refine (itemRead_yes1 187 b off 3 201 (.slice (some ⟨b, off, none⟩) 0 0) 3 0 0 [] c0 hk (fun i => by simp) (fun W hW => ?_) (fun W hW => ?_)).mono ?_
        · exact read_text 187 (some ⟨b, off, none⟩) 0 0 W
        · exact itemOf_text 0 (rd.below hW (Nat.le_refl _)) (by omega)
        · rintro e w' ⟨s, rfl, o, bb⟩
          exact ⟨_, _, rfl, by omega, hid (Same.refl _), o, bb⟩
      · rw [if_neg k3, if_neg (by simp)] at hR
        refine (itemRead_no1 187 b off k c0 hk (fun W hW => ?_)).mono fun e w' hh => no e w' hh hR
        exact read_short_K k k3 _ 0 0 (by omega) W
    · have ht : tl b off cap = some ⟨b, off + 1, none⟩ := by rw [tl, if_neg h1]
      rw [ht] at rd
      by_cases k3 : k = 3
      · subst k3
        rw [if_pos rfl] at hR
        by_cases h40 : ts.length ≤ 40
        · rw [if_pos h40] at hR
          simp only [Prod.mk.injEq] at hR
          obtain ⟨rfl, rfl, rfl, rfl, rfl⟩ := hR
          refine (itemRead_yes 187 b off n cap hcap (by omega) 3 201 (.slice (some ⟨b, off + 1, none⟩) (n - 1) (cap - 1)) 3 0 0 ts c0 hk (by omega) hn hbt (fun W hW => ?_) (fun W hW => ?_)).mono ?_
          · have := read_text 187 (some ⟨b, off + 1, none⟩) (n - 1) (cap - 1) W
            rw [decide_eq_true (by omega)] at this
            exact this
          · have := itemOf_text (cap - 1) (rd.below hW (Nat.le_refl _)) (by omega)
            rw [show n - 1 = ts.length by omega] at this ⊢
            exact this
          · rintro e w' ⟨s, rfl, o, bb⟩
            exact ⟨_, _, rfl, by omega, hid (Same.refl _), o, bb⟩
        · rw [if_neg h40] at hR
          refine (itemRead_no 187 b off n cap hcap (by omega) 3 c0 hk (by omega) hn (fun W hW => ?_)).mono fun e w' hh => no e w' hh hR
          have := read_text 187 (some ⟨b, off + 1, none⟩) (n - 1) (cap - 1) W
          rw [decide_eq_false (by omega)] at this
          exact this.mono fun e w' ⟨h1, h2⟩ => ⟨_, h1, h2⟩
      · rw [if_neg k3] at hR
        by_cases h8 : ts.length = 8
        · rw [if_pos h8] at hR
          have hn8 : n - 1 = 8 := by omega
          by_cases k1 : k = 1
          · subst k1
            rw [if_pos rfl] at hR
            simp only [Prod.mk.injEq] at hR
            obtain ⟨rfl, rfl, rfl, rfl, rfl⟩ := hR
            refine (itemRead_yes 187 b off n cap hcap (by omega) 1 199 (.int .i64 ((low ts : Int) - 9223372036854775808)) 1 ((low ts : Int) - 9223372036854775808) 0 [] c0 hk (by omega) hn (fun i => by simp) (fun W hW => ?_) (fun W hW => ?_)).mono ?_
            · exact read_int 187 (cap - 1) (rd.below hW (Nat.le_refl _)) hn8
            · refine (itemOf_int _ W).mono ?_
              rintro e w' ⟨rfl, bb⟩
              exact ⟨_, rfl, World.ownsRow_nil _ _ _ _, bb⟩
            · rintro e w' ⟨s, rfl, o, bb⟩
              exact ⟨_, _, rfl, by omega, hid (Same.refl _), o, bb⟩
          · rw [if_neg k1] at hR
            by_cases k2 : k = 2
            · subst k2
              rw [if_pos rfl] at hR
              have hx : low ts < 18446744073709551616 := low_lt ts 0 (by omega)
              cases hd : unfK (low ts) with
              | none =>
                rw [hd] at hR
                refine (itemRead_no 187 b off n cap hcap (by omega) 2 c0 hk (by omega) hn (fun W hW => ?_)).mono fun e w' hh => no e w' hh hR
                refine (read_float_K (cap - 1) (rd.below hW (Nat.le_refl _)) hn8).mono ?_
                rintro e w' ⟨y, ok', rfl, hy, HD, h2⟩
                have := HD.out
                rw [hd] at this
                cases ok' with
                | false => exact ⟨_, rfl, h2⟩
                | true => cases this
              | some y0 =>
                rw [hd] at hR
                simp only [Prod.mk.injEq] at hR
                obtain ⟨rfl, rfl, rfl, rfl, rfl⟩ := hR
                have hy0 : y0 < 18446744073709551616 := by
                  unfold unfK at hd
                  split at hd
                  · cases hd; first | exact back_lt _ hx | exact hx
                  · cases hd
                refine (itemRead_yes 187 b off n cap hcap (by omega) 2 200 (.float .f64 y0) 2 0 y0 [] c0 hk (by omega) hn (fun i => by simp) (fun W hW => ?_) (fun W hW => ?_)).mono ?_
                · refine (read_float_K (cap - 1) (rd.below hW (Nat.le_refl _)) hn8).mono ?_
                  rintro e w' ⟨y, ok', rfl, hy, HD, h2⟩
                  have := HD.out
                  rw [hd] at this
                  cases ok' with
                  | false => cases this
                  | true => cases this; exact ⟨rfl, h2⟩
                · refine (itemOf_float _ W).mono ?_
                  rintro e w' ⟨rfl, bb⟩
                  exact ⟨_, rfl, World.ownsRow_nil _ _ _ _, bb⟩
                · rintro e w' ⟨s, rfl, o, bb⟩
                  exact ⟨_, _, rfl, hy0, hid (Same.refl _), o, bb⟩
            · rw [if_neg k2] at hR
              refine (itemRead_no 187 b off n cap hcap (by omega) k c0 hk (by omega) hn (fun W hW => ?_)).mono fun e w' hh => no e w' hh hR
              exact read_other_K k k1 k2 k3 (cap - 1) (rd.below hW (Nat.le_refl _)) hn8
        · rw [if_neg h8] at hR
          refine (itemRead_no 187 b off n cap hcap (by omega) k c0 hk (by omega) hn (fun W hW => ?_)).mono fun e w' hh => no e w' hh hR
          exact read_short_K k k3 _ (n - 1) (cap - 1) (by omega) W

set_option maxRecDepth 100000 in
set_option maxHeartbeats 1600000 in
theorem impl_KeyRead {ad : Option Addr} {n : Nat} (cap : Nat) (hcap : n ≤ cap) {zs : List Int} {w : World} (h : Reads w ad n zs) (hn : n ≤ 1048576) {RK RN : Int} {RF : Nat} {RZ : List Int} {ok : Bool} (hR : readR unfK zs = (RK, RN, RF, RZ, ok)) :
    Calls Tryz.prog 172 #[.slice ad n cap] w fun e w' => ∃ (f' : Nat) (v : Value), e = .returned (.tuple #[.agg #[.int .i64 RK, .int .i64 RN, .float .f64 f', v], .bool ok]) ∧ f' < 18446744073709551616 ∧ Hid (Same RF f') ∧ w'.ownsRow w.heap.size 5 1 v RZ.length (bys RZ) ∧ Below w.heap.size w w' := by
  have hbd := (readR_bd hR h.bd (by rw [h.len]; exact hn)).1
  have HR := hid hR
  have R := heap_alloc_new w (.cells #[.int .i64 0, .int .i64 0, .float .f64 0, .slice none 0 0] 29)
  have HB := hid (Below.alloc1 w (.cells #[.int .i64 0, .int .i64 0, .float .f64 0, .slice none 0 0] 29))
  have HZ := hid (alloc_size w (.cells #[.int .i64 0, .int .i64 0, .float .f64 0, .slice none 0 0] 29))
  have HH := hid (h.alloc (.cells #[.int .i64 0, .int .i64 0, .float .f64 0, .slice none 0 0] 29))
  have H0 := hid R
  clear R hR h
  go_enter Tryz.func172, Tryz.ntmps172
  go_wp2_with fail
  refine (itemRead_K cap hcap HH.out hn HR.out).mono ?_
  rintro e w1 ⟨f', v, rfl, hf', SM, o, b1⟩
  obtain ⟨ad1, cap1, rfl, r1, _⟩ := Reads.own o hbd
  have z := HZ.out
  have S1 := (b1.block w.heap.size (by omega)).trans H0.out
  have B1 := HB.out.trans (b1.mono HB.out.size)
  have T1 := hid S1
  rw [z] at o
  have O := hid o
  clear S1 b1 z HZ HB H0 o r1 HH HR
  go_wp2_with (first
    | (refine wpList_store_row rfl 29 (.tmp 2) (.tmp 6) rfl w.heap.size #[.int .i64 RK, .int .i64 RN, .float .f64 f', .slice ad1 RZ.length cap1] rfl rfl 29 _ T1.out ?s1 ?s2 ?s3 ?_))
  case s1 => exact size29
  case s2 => rfl
  case s3 => simp [Value.oneCell']
  refine bodyPost_ret (results_cell_tmp Tryz.results172 _ _ w.heap.size 29 _ (0, 0) _ rfl (setRow_heap _ _ _ _ _ _ T1.out) Tryz.underlying29 rfl size29) rfl ⟨_, _, rfl, hf', SM, owns_base (owns_at O.out fun k hk => ?_) (by omega), below_setRow B1 (by omega) _⟩
  rw [setRow_other _ _ _ _ (by omega)]

theorem itemRead_V {ad : Option Addr} {n : Nat} (cap : Nat) (hcap : n ≤ cap) {zs : List Int} {w : World} (h : Reads w ad n zs) (hn : n ≤ 1048576) {RK RN : Int} {RF : Nat} {RZ : List Int} {ok : Bool} (hR : readR unfV zs = (RK, RN, RF, RZ, ok)) :
    Calls Tryz.prog 186 #[.slice ad n cap, .func (.func 188) #[] #[]] w fun e w' => ∃ (f' : Nat) (v : Value), e = .returned (.tuple #[.agg #[.int .i64 RK, .int .i64 RN, .float .f64 f', v], .bool ok]) ∧ f' < 18446744073709551616 ∧ Hid (Same RF f') ∧ w'.ownsRow w.heap.size 5 1 v RZ.length (bys RZ) ∧ Below w.heap.size w w' := by
  have hl := h.len
  have hbdz := h.bd
  have no : ∀ e w', (e = Ending.returned (.tuple #[.agg #[.int .i64 0, .int .i64 0, .float .f64 0, .slice none 0 0], .bool false]) ∧ Below w.heap.size w w') → (0, 0, 0, [], false) = (RK, RN, RF, RZ, ok) → ∃ (f' : Nat) (v : Value), e = .returned (.tuple #[.agg #[.int .i64 RK, .int .i64 RN, .float .f64 f', v], .bool ok]) ∧ f' < 18446744073709551616 ∧ Hid (Same RF f') ∧ w'.ownsRow w.heap.size 5 1 v RZ.length (bys RZ) ∧ Below w.heap.size w w' := by
    rintro e w' ⟨rfl, b⟩ hR
    simp only [Prod.mk.injEq] at hR
    obtain ⟨rfl, rfl, rfl, rfl, rfl⟩ := hR
    exact ⟨_, _, rfl, by omega, hid (Same.refl _), World.ownsRow_nil _ _ _ _, b⟩
  cases zs with
  | nil =>
    obtain rfl : n = 0 := by simpa using hl.symm
    exact (itemRead_nil 188 ad cap w).mono fun e w' hh => no e w' hh hR
  | cons k ts =>
    have hl' : ts.length + 1 = n := by simpa using hl
    obtain ⟨b, off, rfl⟩ := h.pos (by omega)
    have hk : 0 ≤ k ∧ k ≤ 255 := hbdz 0
    have c0 : w.cell? ⟨b, off, none⟩ = some (.int .u8 k) := by
      rcases h.cells with h0 | ⟨b', off', e, hcc⟩
      · omega
      · cases e; exact hcc 0 (by omega)
    have rd := h.rest hcap
    have hbt : ∀ i, 0 ≤ ts.getD i 0 ∧ ts.getD i 0 ≤ 255 := fun i => hbdz (i + 1)
    simp only [readR] at hR
    by_cases h1 : cap = 1
    · subst h1
      obtain rfl : n = 1 := by omega
      obtain rfl : ts = [] := List.eq_nil_of_length_eq_zero (by omega)
      rw [show tl b off 1 = some ⟨b, off, none⟩ from rfl] at rd
      by_cases k3 : k = 3
      · subst k3
        rw [if_pos rfl, if_pos (by simp)] at hR
        simp only [Prod.mk.injEq] at hR
        obtain ⟨rfl, rfl, rfl, rfl, rfl⟩ := hR
        refine (itemRead_yes1 188 b off 3 201 (.slice (some ⟨b, off, none⟩) 0 0) 3 0 0 [] c0 hk (fun i => by simp) (fun W hW => ?_) (fun W hW => ?_)).mono ?_
        · exact read_text 188 (some ⟨b, off, none⟩) 0 0 W
        · exact itemOf_text 0 (rd.below hW (Nat.le_refl _)) (by omega)
        · rintro e w' ⟨s, rfl, o, bb⟩
          exact ⟨_, _, rfl, by omega, hid (Same.refl _), o, bb⟩
      · rw [if_neg k3, if_neg (by simp)] at hR
        refine (itemRead_no1 188 b off k c0 hk (fun W hW => ?_)).mono fun e w' hh => no e w' hh hR
        exact read_short_V k k3 _ 0 0 (by omega) W
    · have ht : tl b off cap = some ⟨b, off + 1, none⟩ := by rw [tl, if_neg h1]
      rw [ht] at rd
      by_cases k3 : k = 3
      · subst k3
        rw [if_pos rfl] at hR
        by_cases h40 : ts.length ≤ 40
        · rw [if_pos h40] at hR
          simp only [Prod.mk.injEq] at hR
          obtain ⟨rfl, rfl, rfl, rfl, rfl⟩ := hR
          refine (itemRead_yes 188 b off n cap hcap (by omega) 3 201 (.slice (some ⟨b, off + 1, none⟩) (n - 1) (cap - 1)) 3 0 0 ts c0 hk (by omega) hn hbt (fun W hW => ?_) (fun W hW => ?_)).mono ?_
          · have := read_text 188 (some ⟨b, off + 1, none⟩) (n - 1) (cap - 1) W
            rw [decide_eq_true (by omega)] at this
            exact this
          · have := itemOf_text (cap - 1) (rd.below hW (Nat.le_refl _)) (by omega)
            rw [show n - 1 = ts.length by omega] at this ⊢
            exact this
          · rintro e w' ⟨s, rfl, o, bb⟩
            exact ⟨_, _, rfl, by omega, hid (Same.refl _), o, bb⟩
        · rw [if_neg h40] at hR
          refine (itemRead_no 188 b off n cap hcap (by omega) 3 c0 hk (by omega) hn (fun W hW => ?_)).mono fun e w' hh => no e w' hh hR
          have := read_text 188 (some ⟨b, off + 1, none⟩) (n - 1) (cap - 1) W
          rw [decide_eq_false (by omega)] at this
          exact this.mono fun e w' ⟨h1, h2⟩ => ⟨_, h1, h2⟩
      · rw [if_neg k3] at hR
        by_cases h8 : ts.length = 8
        · rw [if_pos h8] at hR
          have hn8 : n - 1 = 8 := by omega
          by_cases k1 : k = 1
          · subst k1
            rw [if_pos rfl] at hR
            simp only [Prod.mk.injEq] at hR
            obtain ⟨rfl, rfl, rfl, rfl, rfl⟩ := hR
            refine (itemRead_yes 188 b off n cap hcap (by omega) 1 199 (.int .i64 ((low ts : Int) - 9223372036854775808)) 1 ((low ts : Int) - 9223372036854775808) 0 [] c0 hk (by omega) hn (fun i => by simp) (fun W hW => ?_) (fun W hW => ?_)).mono ?_
            · exact read_int 188 (cap - 1) (rd.below hW (Nat.le_refl _)) hn8
            · refine (itemOf_int _ W).mono ?_
              rintro e w' ⟨rfl, bb⟩
              exact ⟨_, rfl, World.ownsRow_nil _ _ _ _, bb⟩
            · rintro e w' ⟨s, rfl, o, bb⟩
              exact ⟨_, _, rfl, by omega, hid (Same.refl _), o, bb⟩
          · rw [if_neg k1] at hR
            by_cases k2 : k = 2
            · subst k2
              rw [if_pos rfl] at hR
              have hx : low ts < 18446744073709551616 := low_lt ts 0 (by omega)
              cases hd : unfV (low ts) with
              | none =>
                rw [hd] at hR
                refine (itemRead_no 188 b off n cap hcap (by omega) 2 c0 hk (by omega) hn (fun W hW => ?_)).mono fun e w' hh => no e w' hh hR
                refine (read_float_V (cap - 1) (rd.below hW (Nat.le_refl _)) hn8).mono ?_
                rintro e w' ⟨y, ok', rfl, hy, HD, h2⟩
                have := HD.out
                rw [hd] at this
                cases ok' with
                | false => exact ⟨_, rfl, h2⟩
                | true => cases this
              | some y0 =>
                rw [hd] at hR
                simp only [Prod.mk.injEq] at hR
                obtain ⟨rfl, rfl, rfl, rfl, rfl⟩ := hR
                have hy0 : y0 < 18446744073709551616 := by
                  unfold unfV at hd
                  split at hd
                  · cases hd; first | exact back_lt _ hx | exact hx
                  · cases hd
                refine (itemRead_yes 188 b off n cap hcap (by omega) 2 200 (.float .f64 y0) 2 0 y0 [] c0 hk (by omega) hn (fun i => by simp) (fun W hW => ?_) (fun W hW => ?_)).mono ?_
                · refine (read_float_V (cap - 1) (rd.below hW (Nat.le_refl _)) hn8).mono ?_
                  rintro e w' ⟨y, ok', rfl, hy, HD, h2⟩
                  have := HD.out
                  rw [hd] at this
                  cases ok' with
                  | false => cases this
                  | true => cases this; exact ⟨rfl, h2⟩
                · refine (itemOf_float _ W).mono ?_
                  rintro e w' ⟨rfl, bb⟩
                  exact ⟨_, rfl, World.ownsRow_nil _ _ _ _, bb⟩
                · rintro e w' ⟨s, rfl, o, bb⟩
                  exact ⟨_, _, rfl, hy0, hid (Same.refl _), o, bb⟩
            · rw [if_neg k2] at hR
              refine (itemRead_no 188 b off n cap hcap (by omega) k c0 hk (by omega) hn (fun W hW => ?_)).mono fun e w' hh => no e w' hh hR
              exact read_other_V k k1 k2 k3 (cap - 1) (rd.below hW (Nat.le_refl _)) hn8
        · rw [if_neg h8] at hR
          refine (itemRead_no 188 b off n cap hcap (by omega) k c0 hk (by omega) hn (fun W hW => ?_)).mono fun e w' hh => no e w' hh hR
          exact read_short_V k k3 _ (n - 1) (cap - 1) (by omega) W

set_option maxRecDepth 100000 in
set_option maxHeartbeats 1600000 in
theorem impl_ValueRead {ad : Option Addr} {n : Nat} (cap : Nat) (hcap : n ≤ cap) {zs : List Int} {w : World} (h : Reads w ad n zs) (hn : n ≤ 1048576) {RK RN : Int} {RF : Nat} {RZ : List Int} {ok : Bool} (hR : readR unfV zs = (RK, RN, RF, RZ, ok)) :
    Calls Tryz.prog 173 #[.slice ad n cap] w fun e w' => ∃ (f' : Nat) (v : Value), e = .returned (.tuple #[.agg #[.int .i64 RK, .int .i64 RN, .float .f64 f', v], .bool ok]) ∧ f' < 18446744073709551616 ∧ Hid (Same RF f') ∧ w'.ownsRow w.heap.size 5 1 v RZ.length (bys RZ) ∧ Below w.heap.size w w' := by
  have hbd := (readR_bd hR h.bd (by rw [h.len]; exact hn)).1
  have HR := hid hR
  have R := heap_alloc_new w (.cells #[.int .i64 0, .int .i64 0, .float .f64 0, .slice none 0 0] 29)
  have HB := hid (Below.alloc1 w (.cells #[.int .i64 0, .int .i64 0, .float .f64 0, .slice none 0 0] 29))
  have HZ := hid (alloc_size w (.cells #[.int .i64 0, .int .i64 0, .float .f64 0, .slice none 0 0] 29))
  have HH := hid (h.alloc (.cells #[.int .i64 0, .int .i64 0, .float .f64 0, .slice none 0 0] 29))
  have H0 := hid R
  clear R hR h
  go_enter Tryz.func173, Tryz.ntmps173
  go_wp2_with fail
  refine (itemRead_V cap hcap HH.out hn HR.out).mono ?_
  rintro e w1 ⟨f', v, rfl, hf', SM, o, b1⟩
  obtain ⟨ad1, cap1, rfl, r1, _⟩ := Reads.own o hbd
  have z := HZ.out
  have S1 := (b1.block w.heap.size (by omega)).trans H0.out
  have B1 := HB.out.trans (b1.mono HB.out.size)
  have T1 := hid S1
  rw [z] at o
  have O := hid o
  clear S1 b1 z HZ HB H0 o r1 HH HR
  go_wp2_with (first
    | (refine wpList_store_row rfl 29 (.tmp 2) (.tmp 6) rfl w.heap.size #[.int .i64 RK, .int .i64 RN, .float .f64 f', .slice ad1 RZ.length cap1] rfl rfl 29 _ T1.out ?s1 ?s2 ?s3 ?_))
  case s1 => exact size29
  case s2 => rfl
  case s3 => simp [Value.oneCell']
  refine bodyPost_ret (results_cell_tmp Tryz.results173 _ _ w.heap.size 29 _ (0, 0) _ rfl (setRow_heap _ _ _ _ _ _ T1.out) Tryz.underlying29 rfl size29) rfl ⟨_, _, rfl, hf', SM, owns_base (owns_at O.out fun k hk => ?_) (by omega), below_setRow B1 (by omega) _⟩
  rw [setRow_other _ _ _ _ (by omega)]

end Go.Proofs.YtebhipicfgnajaaGreat
/- Helps for what is read. -/



namespace Go.Proofs.YtebhipicfgnajaaGreat
open Go.RowKit

theorem two_rows (w : World) (a b : Obj) : ((w.alloc a).alloc b).heap[w.heap.size]? = some a ∧ ((w.alloc a).alloc b).heap[w.heap.size + 1]? = some b ∧ ((w.alloc a).alloc b).heap.size = w.heap.size + 2 := by
  have z1 := alloc_size w a
  have z2 := alloc_size (w.alloc a) b
  refine ⟨?_, ?_, by omega⟩
  · rw [heap_alloc_old _ _ (by omega)]; exact heap_alloc_new w a
  · have := heap_alloc_new (w.alloc a) b
    rwa [z1] at this
theorem row_cells {w : World} {g : Nat} {K N : Int} {f : Nat} {s : Value} {t : TypeId} (h : w.heap[g]? = some (.cells #[.int .i64 K, .int .i64 N, .float .f64 f, s] t)) :
    w.cell? ⟨g, 0, none⟩ = some (.int .i64 K) ∧ w.cell? ⟨g, 1, none⟩ = some (.int .i64 N) ∧ w.cell? ⟨g, 2, none⟩ = some (.float .f64 f) ∧ w.cell? ⟨g, 3, none⟩ = some s := by
  refine ⟨?_, ?_, ?_, ?_⟩ <;> (rw [cell_of_row _ _ _ _ _ _ h]; rfl)
theorem xor_low (x : Nat) (hx : x < 18446744073709551616) : IntKind.i64.wrap (bits .xor .u64 (x : Int) 9223372036854775808) = (x : Int) - 9223372036854775808 := by
  by_cases h : x < 9223372036854775808
  · have h' := u64_xor_nat x 9223372036854775808 (by omega) (by omega)
    have hx' : x ^^^ 9223372036854775808 = 9223372036854775808 + x := neg_bits' x (by omega)
    rw [hx'] at h'
    rw [show ((9223372036854775808 : Int)) = ((9223372036854775808 : Nat) : Int) from rfl, h', IntKind.wrap_i64]
    omega
  · obtain ⟨y, rfl⟩ : ∃ y, x = 9223372036854775808 + y := ⟨x - 9223372036854775808, by omega⟩
    have h' := u64_xor_nat (9223372036854775808 + y) 9223372036854775808 (by omega) (by omega)
    have hx' : (9223372036854775808 + y) ^^^ 9223372036854775808 = y := by
      have : y ^^^ 9223372036854775808 = 9223372036854775808 + y := neg_bits' y (by omega)
      rw [← this, Nat.xor_assoc, Nat.xor_self, Nat.xor_zero]
    rw [hx'] at h'
    rw [show ((9223372036854775808 : Int)) = ((9223372036854775808 : Nat) : Int) from rfl, h', IntKind.wrap_i64]
    omega
theorem setCell_size (w : World) (p : Addr) (v : Value) : (w.setCell p v).heap.size = w.heap.size := by simp
theorem str_eq {a b : List Int} (ha : inB a) (hb : inB b) : ((str a).toList == (str b).toList) = decide (a = b) := by
  rw [str_list, str_list, eq_txt a b ha hb]
  by_cases h : a = b
  · rw [decide_eq_true h, decide_eq_true ((txt_zero a b).2 h)]
  · rw [decide_eq_false h, decide_eq_false (fun e => h ((txt_zero a b).1 e))]
end Go.Proofs.YtebhipicfgnajaaGreat
/- Keys' and values' bytes and what is read of them, plain. No conditions. -/



namespace Go.Proofs.YtebhipicfgnajaaGreat
open Go.RowKit

theorem frank_sm {x y : Nat} (h : Same x y) : frank y = frank x := by
  rcases h with ⟨h1, h2⟩ | ⟨_, rfl⟩
  · rw [frank, frank, if_pos h1, if_pos h2]
  · rfl
theorem fbits_sm {x y : Nat} (h : Same x y) : fbits y = fbits x := by
  rcases h with ⟨h1, h2⟩ | ⟨_, rfl⟩
  · rw [fbits, fbits, if_pos h1, if_pos h2]
  · rfl
theorem hi8_len (x : Nat) : (hi8 x 8).length = 8 := hi8_length x 8

theorem keyB_int (N : Int) : keyB 1 N 0 0 [] = 1 :: hi8 (N + 9223372036854775808).toNat 8 := by
  rw [keyB, if_pos (by rw [okK, show okI 1 N 0 0 = true from decide_eq_true (by omega), decide_eq_true (by omega)]; rfl), bytesI, if_pos rfl]; rfl
theorem valB_int (N : Int) : valB 1 N 0 0 [] = 1 :: hi8 (N + 9223372036854775808).toNat 8 := by
  rw [valB, if_pos ⟨decide_eq_true (by omega), by omega⟩, bytesI, if_pos rfl]; rfl
theorem keyB_float (y : Nat) (h : y ≠ 9223372036854775808) : keyB 2 0 y 0 [] = 2 :: hi8 (frank y) 8 := by
  rw [keyB, if_pos (by rw [okK, show okI 2 0 y 0 = true from decide_eq_true (by omega), decide_eq_true ⟨by omega, h⟩]; rfl), bytesI, if_neg (by decide), if_pos rfl]; rfl
theorem valB_float (y : Nat) : valB 2 0 y 0 [] = 2 :: hi8 (fbits y) 8 := by
  rw [valB, if_pos ⟨decide_eq_true (by omega), by omega⟩, bytesI, if_neg (by decide), if_pos rfl]; rfl
theorem keyB_text (m : Nat) (ts : List Int) (h : m ≤ 40) : keyB 3 0 0 m ts = 3 :: ts := by
  rw [keyB, if_pos (by rw [okK, show okI 3 0 0 m = true from decide_eq_true (by omega), decide_eq_true (by omega)]; rfl), bytesI, if_neg (by decide), if_neg (by decide)]; rfl
theorem valB_text (m : Nat) (ts : List Int) (h : m ≤ 40) : valB 3 0 0 m ts = 3 :: ts := by
  rw [valB, if_pos ⟨decide_eq_true (by omega), by omega⟩, bytesI, if_neg (by decide), if_neg (by decide)]; rfl
theorem keyB_other (k : Int) (k1 : k ≠ 1) (k2 : k ≠ 2) (k3 : k ≠ 3) : keyB k 0 0 0 [] = [] := by
  rw [keyB, if_neg]
  intro h
  have hh := okK_I h
  have := of_decide_eq_true hh.1
  omega
theorem valB_other (k : Int) (k1 : k ≠ 1) (k2 : k ≠ 2) (k3 : k ≠ 3) : valB k 0 0 0 [] = [] := by
  rw [valB, if_neg]
  intro h
  have := of_decide_eq_true h.1
  omega
theorem cons_len {k : Int} {xs ts : List Int} (h : k :: xs = k :: ts) : xs = ts := (List.cons.inj h).2
theorem hi8_ne {x : Nat} {ts : List Int} (h : ts.length ≠ 8) : hi8 x 8 ≠ ts := by
  intro e; rw [← e, hi8_len] at h; exact h rfl

theorem unrank_ne {x y : Nat} {ok : Bool} (hx : x < 18446744073709551616) (h : Unrank x y ok) : y ≠ 9223372036854775808 := by
  rcases h with ⟨h1, _, h2⟩ | ⟨_, _, rfl⟩
  · intro hy
    subst hy
    have h3 := frank_sm h2
    rw [h1] at h3
    have h4 : frank 9223372036854775808 = 9223372036854775808 := by decide
    rw [h4] at h3
    subst h3
    rcases h2 with ⟨_, h5⟩ | ⟨_, h5⟩
    · exact absurd h5 (by decide)
    · exact absurd h5 (by decide)
  · omega
theorem unrank_rank {x y : Nat} {ok : Bool} (h : Unrank x y ok) : (frank y = x ↔ ok = true) ∧ unfK x = if ok = true then some (back x) else none := by
  rcases h with ⟨h1, rfl, h2⟩ | ⟨h1, rfl, rfl⟩
  · exact ⟨⟨fun _ => rfl, fun _ => by rw [frank_sm h2]; exact h1⟩, by rw [unfK, if_pos h1]; rfl⟩
  · refine ⟨⟨fun e => ?_, fun e => by cases e⟩, by rw [unfK, if_neg h1]; rfl⟩
    exfalso
    have h4 : frank 0 = 9223372036854775808 := by decide
    rw [h4] at e
    subst e
    exact h1 (by decide)

end Go.Proofs.YtebhipicfgnajaaGreat
/- Plain arithmetic on numbers as bytes, low first. No conditions. -/

namespace Go.Proofs.YtebhipicfgnajaaGreat
open Go.RowKit
set_option maxRecDepth 100000

/-- n behind i bytes. -/
def sh (n i : Nat) : Nat := n / 256 ^ i
theorem sh_zero (n : Nat) : sh n 0 = n := by simp [sh]
theorem sh_succ (n i : Nat) : sh n (i + 1) = sh n i / 256 := by simp [sh, Nat.pow_succ, Nat.div_div_eq_div_mul]
theorem sh_le (n i : Nat) : sh n i ≤ n := Nat.div_le_self _ _

/-- The lowest 'size' bytes of n, low first. -/
def dig (n size : Nat) : List Int := (List.range size).map fun i => ((sh n i : Nat) : Int) % 256
theorem dig_length (n size : Nat) : (dig n size).length = size := by simp [dig]
theorem dig_succ (n i : Nat) : dig n (i + 1) = dig n i ++ [((sh n i : Nat) : Int) % 256] := by simp [dig, List.range_succ]
theorem dig_zero (n : Nat) : dig n 0 = [] := rfl
theorem dig_at (n size i : Nat) (h : i < size) : (dig n size).getD i 0 = ((sh n i : Nat) : Int) % 256 := by simp [dig, h]
theorem dig_bd (n size i : Nat) : 0 ≤ (dig n size).getD i 0 ∧ (dig n size).getD i 0 ≤ 255 := by
  by_cases h : i < size
  · rw [dig_at n size i h]; omega
  · simp [dig, h]

/-- What PutNum answers. -/
def putL (n size : Int) : List Int := if 1 ≤ size ∧ size ≤ 8 ∧ 0 ≤ n ∧ sh n.toNat size.toNat = 0 then dig n.toNat size.toNat else []
theorem putL_bd (n size : Int) (i : Nat) : 0 ≤ (putL n size).getD i 0 ∧ (putL n size).getD i 0 ≤ 255 := by
  unfold putL; split
  · exact dig_bd _ _ _
  · simp
theorem putL_no (n size : Int) (h : ¬ (1 ≤ size ∧ size ≤ 8 ∧ 0 ≤ n)) : putL n size = [] := by
  unfold putL; rw [if_neg (by omega)]
theorem putL_big (n size : Nat) (h : 0 < sh n size) : putL n size = [] := by
  unfold putL; rw [if_neg (by simp; omega)]
theorem putL_yes (n size : Nat) (h1 : 1 ≤ size) (h8 : size ≤ 8) (h : sh n size = 0) : putL n size = dig n size := by
  unfold putL; rw [if_pos (by simp; omega)]; simp
theorem putL_length (n size : Int) : (putL n size).length ≤ 8 := by
  unfold putL; split
  · rw [dig_length]; omega
  · simp
end Go.Proofs.YtebhipicfgnajaaGreat
/- Plain arithmetic: the number that bytes are, low first, and what GetNum answers. No conditions. -/

namespace Go.Proofs.YtebhipicfgnajaaGreat
open Go.RowKit
set_option maxRecDepth 100000

/-- The number that the c bytes from place k on are, low first. -/
def val (f : Nat → Int) : Nat → Nat → Int
  | _, 0 => 0
  | k, c + 1 => val f (k + 1) c * 256 + f k

theorem val_zero (f : Nat → Int) (k : Nat) : val f k 0 = 0 := rfl
theorem val_step (f : Nat → Int) (k size : Nat) (h : k < size) : val f k (size - k) = val f (k + 1) (size - (k + 1)) * 256 + f k := by
  obtain ⟨c, hc⟩ : ∃ c, size - k = c + 1 := ⟨size - k - 1, by omega⟩
  rw [hc, show size - (k + 1) = c by omega]; rfl
theorem val_nonneg (f : Nat → Int) (hf : ∀ j, 0 ≤ f j ∧ f j ≤ 255) : ∀ c k, 0 ≤ val f k c
  | 0, k => by simp [val]
  | c + 1, k => by have := val_nonneg f hf c (k + 1); have := hf k; simp only [val]; omega
theorem val_lt (f : Nat → Int) (hf : ∀ j, 0 ≤ f j ∧ f j ≤ 255) : ∀ c k, val f k c < 256 ^ c
  | 0, k => by simp [val]
  | c + 1, k => by
    have := val_lt f hf c (k + 1); have := hf k; simp only [val]
    have e : (256 : Int) ^ (c + 1) = 256 ^ c * 256 := by rw [Int.pow_succ]
    omega
theorem val_top (f : Nat → Int) (hf : ∀ j, 0 ≤ f j ∧ f j ≤ 255) : ∀ c k, f (k + c) ≤ 127 → val f k (c + 1) < 128 * 256 ^ c
  | 0, k, h => by simp [val] at h ⊢; omega
  | c + 1, k, h => by
    have := val_top f hf c (k + 1) (by rw [show k + 1 + c = k + (c + 1) by omega]; exact h)
    have := hf k
    have e : (256 : Int) ^ (c + 1) = 256 ^ c * 256 := by rw [Int.pow_succ]
    rw [show val f k (c + 1 + 1) = val f (k + 1) (c + 1) * 256 + f k from rfl]
    omega
theorem val_top_ge (f : Nat → Int) (hf : ∀ j, 0 ≤ f j ∧ f j ≤ 255) : ∀ c k, 128 ≤ f (k + c) → 128 * 256 ^ c ≤ val f k (c + 1)
  | 0, k, h => by simp [val] at h ⊢; omega
  | c + 1, k, h => by
    have := val_top_ge f hf c (k + 1) (by rw [show k + 1 + c = k + (c + 1) by omega]; exact h)
    have := hf k
    have e : (256 : Int) ^ (c + 1) = 256 ^ c * 256 := by rw [Int.pow_succ]
    rw [show val f k (c + 1 + 1) = val f (k + 1) (c + 1) * 256 + f k from rfl]
    omega

theorem pow256_le (c d : Nat) (h : c ≤ d) : (256 : Int) ^ c ≤ 256 ^ d := by
  induction h with
  | refl => exact Int.le_refl _
  | step h ih => rename_i m; have e : (256 : Int) ^ (m + 1) = 256 ^ m * 256 := by rw [Int.pow_succ]
                 have : (0 : Int) < 256 ^ m := Int.pow_pos (by decide)
                 omega

/-- Inside the loop nothing passes 2^55. -/
theorem val_in (f : Nat → Int) (hf : ∀ j, 0 ≤ f j ∧ f j ≤ 255) (k size : Nat) (h1 : 1 ≤ k) (hk : k ≤ size) (h8 : size ≤ 8) (ht : size = 8 → k ≤ 7 → f 7 ≤ 127) : val f k (size - k) ≤ 36028797018963967 := by
  by_cases e : size = 8 ∧ k ≤ 7
  · obtain ⟨rfl, h7⟩ := e
    have h := val_top f hf (7 - k) k (by rw [show k + (7 - k) = 7 by omega]; exact ht rfl h7)
    rw [show 7 - k + 1 = 8 - k by omega] at h
    have p := pow256_le (7 - k) 6 (by omega)
    have : (256 : Int) ^ 6 = 281474976710656 := by decide
    omega
  · have h := val_lt f hf (size - k) k
    have p := pow256_le (size - k) 6 (by omega)
    have : (256 : Int) ^ 6 = 281474976710656 := by decide
    omega
theorem val_56 (f : Nat → Int) (hf : ∀ j, 0 ≤ f j ∧ f j ≤ 255) (k size : Nat) (h1 : 1 ≤ k) (h8 : size ≤ 8) : val f k (size - k) ≤ 72057594037927935 := by
  have h := val_lt f hf (size - k) k
  have p := pow256_le (size - k) 7 (by omega)
  have : (256 : Int) ^ 7 = 72057594037927936 := by decide
  omega
theorem val_64 (f : Nat → Int) (hf : ∀ j, 0 ≤ f j ∧ f j ≤ 255) (k size : Nat) (h8 : size ≤ 8) : val f k (size - k) ≤ 18446744073709551615 := by
  have h := val_lt f hf (size - k) k
  have p := pow256_le (size - k) 8 (by omega)
  have : (256 : Int) ^ 8 = 18446744073709551616 := by decide
  omega

/-- The byte at a place, of the list zs. -/
def byteFrom (zs : List Int) (at' : Nat) (j : Nat) : Int := zs.getD (at' + j) 0
/-- The number that stands there. -/
def numAt (zs : List Int) (at' size : Int) : Int := val (byteFrom zs at'.toNat) 0 size.toNat
/-- Is there one? -/
def numOk (zs : List Int) (at' size : Int) : Bool := decide (1 ≤ size ∧ size ≤ 8 ∧ 0 ≤ at' ∧ at' + size ≤ zs.length ∧ numAt zs at' size ≤ 9223372036854775807)
/-- What GetNum answers beside it. -/
def numOf (zs : List Int) (at' size : Int) : Int := if numOk zs at' size = true then numAt zs at' size else 0
theorem num_no (zs : List Int) (at' size : Int) (h : ¬ (1 ≤ size ∧ size ≤ 8 ∧ 0 ≤ at' ∧ at' + size ≤ zs.length)) : numOk zs at' size = false ∧ numOf zs at' size = 0 := by
  have e : numOk zs at' size = false := by unfold numOk; rw [decide_eq_false]; omega
  exact ⟨e, by unfold numOf; rw [if_neg (by simp [e])]⟩
theorem num_big (zs : List Int) (at' size : Nat) (h : 9223372036854775807 < val (byteFrom zs at') 0 size) : numOk zs at' size = false ∧ numOf zs at' size = 0 := by
  have e : numOk zs at' size = false := by unfold numOk numAt; rw [decide_eq_false]; simp only [Int.toNat_natCast]; omega
  exact ⟨e, by unfold numOf; rw [if_neg (by simp [e])]⟩
theorem num_yes (zs : List Int) (at' size : Nat) (h1 : 1 ≤ size) (h8 : size ≤ 8) (hl : at' + size ≤ zs.length) (h : val (byteFrom zs at') 0 size ≤ 9223372036854775807) :
    numOk zs at' size = true ∧ numOf zs at' size = val (byteFrom zs at') 0 size := by
  have e : numOk zs at' size = true := by unfold numOk numAt; rw [decide_eq_true]; simp only [Int.toNat_natCast]; omega
  exact ⟨e, by unfold numOf; rw [if_pos e]; simp [numAt]⟩
end Go.Proofs.YtebhipicfgnajaaGreat
/- Tuples, plain: what is right, their bytes, what is read of bytes. No program, no conditions. -/




namespace Go.Proofs.YtebhipicfgnajaaGreat
open Go.RowKit
set_option maxRecDepth 100000

/-- What is TupleOk. -/
def okT (A B K N : Int) (f n : Nat) (L M : Int) (h m : Nat) : Bool := decide (1 ≤ A ∧ A ≤ 400 ∧ 0 ≤ B ∧ B ≤ 400) && (okK K N f n && (okI L M h m && decide (L ≠ 0)))
theorem okT_iff {A B K N : Int} {f n : Nat} {L M : Int} {h m : Nat} : okT A B K N f n L M h m = true ↔ (1 ≤ A ∧ A ≤ 400 ∧ 0 ≤ B ∧ B ≤ 400) ∧ okK K N f n = true ∧ okI L M h m = true ∧ L ≠ 0 := by
  unfold okT
  rw [Bool.and_eq_true, Bool.and_eq_true, Bool.and_eq_true, decide_eq_true_iff, decide_eq_true_iff]

/-- A tuple's bytes, of its head and its key's and value's bytes. -/
def layT (A B : Int) (ks vs : List Int) : List Int := putL A 4 ++ (putL B 4 ++ ([(ks.length : Int)] ++ (ks ++ ([(vs.length : Int)] ++ vs))))
/-- A tuple's bytes. -/
def bytesT (A B K N : Int) (f n : Nat) (zs : List Int) (L M : Int) (h m : Nat) (ys : List Int) : List Int := if okT A B K N f n L M h m = true then layT A B (keyB K N f n zs) (valB L M h m ys) else []

theorem okI_lim {K N : Int} {f n : Nat} (h : okI K N f n = true) : (0 ≤ K ∧ K ≤ 3) ∧ n ≤ 40 := by
  have := of_decide_eq_true h
  omega
theorem bytesI_len (K N : Int) (B : Nat) (zs : List Int) (h : zs.length ≤ 40) : 1 ≤ (bytesI K N B zs).length ∧ (bytesI K N B zs).length ≤ 41 := by
  unfold bytesI
  split
  · simp [hi8_length]
  · split
    · simp [hi8_length]
    · simp; omega
theorem keyB_len {K N : Int} {f n : Nat} {zs : List Int} (h : zs.length = n) : (keyB K N f n zs).length ≤ 41 := by
  unfold keyB
  split
  · rename_i hk
    unfold okK at hk
    rw [Bool.and_eq_true] at hk
    exact (bytesI_len _ _ _ _ (by have := okI_lim hk.1; omega)).2
  · simp
theorem valB_len {K N : Int} {f n : Nat} {zs : List Int} (h : zs.length = n) : (valB K N f n zs).length ≤ 41 := by
  unfold valB
  split
  · rename_i hk
    exact (bytesI_len _ _ _ _ (by have := okI_lim hk.1; omega)).2
  · simp
end Go.Proofs.YtebhipicfgnajaaGreat
/- What stays where another row is written. -/

namespace Go.Proofs.YtebhipicfgnajaaGreat
open Go.RowKit

theorem ne_row {ad : Option Addr} {lo hi k : Nat} (h : ad = none ∨ ∃ g, ad = some ⟨g, 0, none⟩ ∧ lo ≤ g ∧ g < hi) (hk : k < lo ∨ hi ≤ k) : ∀ a, ad = some a → some a.block ≠ some k := by
  intro a ha
  rcases h with rfl | ⟨g, rfl, h3, h4⟩
  · cases ha
  · cases ha; simp; omega
theorem ne_own {ad : Option Addr} {lo hi k n cap : Nat} (h : ad = none ∨ ∃ g, ad = some ⟨g, 0, none⟩ ∧ lo ≤ g ∧ g < hi) (hk : k < lo ∨ hi ≤ k) : (Value.slice ad n cap).ownBlock = none ∨ (Value.slice ad n cap).ownBlock ≠ some k := by
  rcases h with rfl | ⟨g, rfl, h3, h4⟩
  · exact .inl rfl
  · exact .inr (by simp [Value.ownBlock]; omega)
theorem ne_blk {ad : Option Addr} {lo hi k n cap : Nat} (h : ad = none ∨ ∃ g, ad = some ⟨g, 0, none⟩ ∧ lo ≤ g ∧ g < hi) (hk : k < lo ∨ hi ≤ k) : some k ≠ (Value.slice ad n cap).ownBlock := by
  rcases h with rfl | ⟨g, rfl, h3, h4⟩
  · simp [Value.ownBlock]
  · simp [Value.ownBlock]; omega
theorem Box.other {w w' : World} {g : Nat} {K N : Int} {f : Nat} {ad : Option Addr} {n cap : Nat} (b : Box w g K N f ad n cap) {row : Option Nat} (hg : w.grownBy w' row) (h : some g ≠ row) : Box w' g K N f ad n cap :=
  ⟨hg.cell b.c0 h, hg.cell b.c1 h, hg.cell b.c2 h, hg.cell b.c3 h⟩
theorem Arg.other {w w' : World} {g : Nat} {K N : Int} {f : Nat} {ad : Option Addr} {n cap : Nat} {zs ys : List Int} (a : Arg w g K N f ad n cap zs) {row : Option Nat} (hg : w.grownBy w' row) (h : some g ≠ row) (hr : Reads w' ad n ys) : Arg w' g K N f ad n cap ys :=
  ⟨a.box.other hg h, hr, Nat.lt_of_lt_of_le a.lt hg.size⟩
theorem Same.both {a b c : Nat} (h : Same a b) (k : Same a c) : Same b c := by
  rcases h with ⟨h1, h2⟩ | ⟨h1, rfl⟩
  · rcases k with ⟨_, k2⟩ | ⟨k1, _⟩
    · exact .inl ⟨h2, k2⟩
    · rw [h1] at k1; cases k1
  · exact k
end Go.Proofs.YtebhipicfgnajaaGreat
/- A tuple in a block of its own, and what it leads to. No statement of its own; no conditions. -/


namespace Go.Proofs.YtebhipicfgnajaaGreat
open Go.RowKit
set_option maxRecDepth 100000

structure BoxT (w : World) (g : Nat) (A B K N : Int) (f : Nat) (ad : Option Addr) (n cap : Nat) (L M : Int) (h : Nat) (ad' : Option Addr) (m cap' : Nat) : Prop where
  c0 : w.cell? ⟨g, 0, none⟩ = some (.int .i64 A)
  c1 : w.cell? ⟨g, 1, none⟩ = some (.int .i64 B)
  c2 : w.cell? ⟨g, 2, none⟩ = some (.int .i64 K)
  c3 : w.cell? ⟨g, 3, none⟩ = some (.int .i64 N)
  c4 : w.cell? ⟨g, 4, none⟩ = some (.float .f64 f)
  c5 : w.cell? ⟨g, 5, none⟩ = some (.slice ad n cap)
  c6 : w.cell? ⟨g, 6, none⟩ = some (.int .i64 L)
  c7 : w.cell? ⟨g, 7, none⟩ = some (.int .i64 M)
  c8 : w.cell? ⟨g, 8, none⟩ = some (.float .f64 h)
  c9 : w.cell? ⟨g, 9, none⟩ = some (.slice ad' m cap')

section
variable {w w' : World} {g : Nat} {A B K N : Int} {f : Nat} {ad : Option Addr} {n cap : Nat} {L M : Int} {h : Nat} {ad' : Option Addr} {m cap' : Nat}
theorem BoxT.row {t : TypeId} (h0 : w.heap[g]? = some (.cells #[.int .i64 A, .int .i64 B, .int .i64 K, .int .i64 N, .float .f64 f, .slice ad n cap, .int .i64 L, .int .i64 M, .float .f64 h, .slice ad' m cap'] t (0, 0))) : BoxT w g A B K N f ad n cap L M h ad' m cap' := by
  refine ⟨?_, ?_, ?_, ?_, ?_, ?_, ?_, ?_, ?_, ?_⟩ <;> (rw [cell_of_row _ _ _ _ _ _ h0]; rfl)
theorem BoxT.agree (b : BoxT w g A B K N f ad n cap L M h ad' m cap') (e : w'.heap[g]? = w.heap[g]?) : BoxT w' g A B K N f ad n cap L M h ad' m cap' :=
  ⟨(World.cell?_of_block (w := w) (a := ⟨g, 0, none⟩) e).trans b.c0, (World.cell?_of_block (w := w) (a := ⟨g, 1, none⟩) e).trans b.c1, (World.cell?_of_block (w := w) (a := ⟨g, 2, none⟩) e).trans b.c2, (World.cell?_of_block (w := w) (a := ⟨g, 3, none⟩) e).trans b.c3, (World.cell?_of_block (w := w) (a := ⟨g, 4, none⟩) e).trans b.c4, (World.cell?_of_block (w := w) (a := ⟨g, 5, none⟩) e).trans b.c5, (World.cell?_of_block (w := w) (a := ⟨g, 6, none⟩) e).trans b.c6, (World.cell?_of_block (w := w) (a := ⟨g, 7, none⟩) e).trans b.c7, (World.cell?_of_block (w := w) (a := ⟨g, 8, none⟩) e).trans b.c8, (World.cell?_of_block (w := w) (a := ⟨g, 9, none⟩) e).trans b.c9⟩
theorem BoxT.lt (b : BoxT w g A B K N f ad n cap L M h ad' m cap') : g < w.heap.size := World.block_lt_of_cell? w _ b.c0
theorem BoxT.below (b : BoxT w g A B K N f ad n cap L M h ad' m cap') {B0 : Nat} (e : Below B0 w w') (hB : w.heap.size ≤ B0) : BoxT w' g A B K N f ad n cap L M h ad' m cap' := b.agree (e.block g (Nat.lt_of_lt_of_le b.lt hB))
theorem BoxT.other (b : BoxT w g A B K N f ad n cap L M h ad' m cap') {row : Option Nat} (hg : w.grownBy w' row) (hne : some g ≠ row) : BoxT w' g A B K N f ad n cap L M h ad' m cap' := b.agree (hg.block g b.lt hne)
end
theorem BoxT.new (w : World) (A B K N : Int) (f : Nat) (ad : Option Addr) (n cap : Nat) (L M : Int) (h : Nat) (ad' : Option Addr) (m cap' : Nat) (t : TypeId) : BoxT (w.alloc (.cells #[.int .i64 A, .int .i64 B, .int .i64 K, .int .i64 N, .float .f64 f, .slice ad n cap, .int .i64 L, .int .i64 M, .float .f64 h, .slice ad' m cap'] t)) w.heap.size A B K N f ad n cap L M h ad' m cap' := BoxT.row (heap_alloc_new w _)

structure ArgT (w : World) (g : Nat) (A B K N : Int) (f : Nat) (ad : Option Addr) (n cap : Nat) (L M : Int) (h : Nat) (ad' : Option Addr) (m cap' : Nat) (zs ys : List Int) : Prop where
  box : BoxT w g A B K N f ad n cap L M h ad' m cap'
  rk : Reads w ad n zs
  rv : Reads w ad' m ys
section
variable {w w' : World} {g : Nat} {A B K N : Int} {f : Nat} {ad : Option Addr} {n cap : Nat} {L M : Int} {h : Nat} {ad' : Option Addr} {m cap' : Nat} {zs ys zs' ys' : List Int}
theorem ArgT.below (a : ArgT w g A B K N f ad n cap L M h ad' m cap' zs ys) {B0 : Nat} (e : Below B0 w w') (hB : w.heap.size ≤ B0) : ArgT w' g A B K N f ad n cap L M h ad' m cap' zs ys := ⟨a.box.below e hB, a.rk.below e hB, a.rv.below e hB⟩
theorem ArgT.lt (a : ArgT w g A B K N f ad n cap L M h ad' m cap' zs ys) : g < w.heap.size := a.box.lt
theorem ArgT.alloc (a : ArgT w g A B K N f ad n cap L M h ad' m cap' zs ys) (o : Obj) : ArgT (w.alloc o) g A B K N f ad n cap L M h ad' m cap' zs ys := a.below (Below.alloc1 w o) (Nat.le_refl _)
theorem ArgT.drewN (a : ArgT w g A B K N f ad n cap L M h ad' m cap' zs ys) (k : Nat) : ArgT (w.drewN k) g A B K N f ad n cap L M h ad' m cap' zs ys := a.below ((Still.drewN w k).below w.heap.size) (Nat.le_refl _)
theorem ArgT.drew (a : ArgT w g A B K N f ad n cap L M h ad' m cap' zs ys) : ArgT w.drew g A B K N f ad n cap L M h ad' m cap' zs ys := a.below ((Still.drew w).below w.heap.size) (Nat.le_refl _)
theorem ArgT.other (a : ArgT w g A B K N f ad n cap L M h ad' m cap' zs ys) {row : Option Nat} (hg : w.grownBy w' row) (hne : some g ≠ row) (hk : Reads w' ad n zs') (hv : Reads w' ad' m ys') : ArgT w' g A B K N f ad n cap L M h ad' m cap' zs' ys' := ⟨a.box.other hg hne, hk, hv⟩
end
theorem ArgT.new {w : World} (A B K N : Int) (f : Nat) (ad : Option Addr) (n cap : Nat) (L M : Int) (h : Nat) (ad' : Option Addr) (m cap' : Nat) {zs ys : List Int} (hk : Reads w ad n zs) (hv : Reads w ad' m ys) (t : TypeId) (g : Nat) (hg : g = w.heap.size) : ArgT (w.alloc (.cells #[.int .i64 A, .int .i64 B, .int .i64 K, .int .i64 N, .float .f64 f, .slice ad n cap, .int .i64 L, .int .i64 M, .float .f64 h, .slice ad' m cap'] t)) g A B K N f ad n cap L M h ad' m cap' zs ys := by
  subst hg
  exact ⟨BoxT.new w A B K N f ad n cap L M h ad' m cap' t, hk.alloc _, hv.alloc _⟩
end Go.Proofs.YtebhipicfgnajaaGreat
/- The contracts of l5in, headOf, limited, inLimits and of both TupleOk. Conditions: texts of at most 2^21 bytes. -/



namespace Go.Proofs.YtebhipicfgnajaaGreat
open Go.RowKit
set_option maxRecDepth 100000

theorem size_tup : (Tryz.prog.info? 40).map (·.size) = some 10 := by kernel_rfl
theorem size_head : (Tryz.prog.info? 153).map (·.size) = some 2 := by kernel_rfl

theorem spec_in (n lo hi : Int) (w : World) : Calls Tryz.prog 76 #[.int .i64 n, .int .i64 lo, .int .i64 hi] w fun e w' => e = .returned (.bool (decide (lo ≤ n ∧ n ≤ hi))) ∧ w' = w := by
  by_cases h1 : lo ≤ n
  · by_cases h2 : n ≤ hi
    · rw [decide_eq_true ⟨h1, h2⟩]
      go_enter Tryz.func76, Tryz.ntmps76
      go_wp2
      go_ret
      exact ⟨rfl, rfl⟩
    · rw [decide_eq_false (by omega)]
      go_enter Tryz.func76, Tryz.ntmps76
      go_wp2
      go_ret
      exact ⟨rfl, rfl⟩
  · rw [decide_eq_false (by omega)]
    go_enter Tryz.func76, Tryz.ntmps76
    go_wp2
    go_ret
    exact ⟨rfl, rfl⟩

set_option maxHeartbeats 1600000 in
theorem spec_TupleOk (A B K N : Int) (f : Nat) (ad : Option Addr) (n cap : Nat) (L M : Int) (h : Nat) (ad' : Option Addr) (m cap' : Nat) (hf : f < 18446744073709551616) (hh : h < 18446744073709551616) (hn : n ≤ 2097152) (hm : m ≤ 2097152) (w : World) :
    Calls Tryz.prog 21 #[.agg #[.int .i64 A, .int .i64 B, .int .i64 K, .int .i64 N, .float .f64 f, .slice ad n cap, .int .i64 L, .int .i64 M, .float .f64 h, .slice ad' m cap']] w fun e w' => e = .returned (.bool (okT A B K N f n L M h m)) ∧ Below w.heap.size w w' := by
  have hB := hid (BoxT.new w A B K N f ad n cap L M h ad' m cap' 40)
  have HB := hid (Below.alloc1 w (.cells #[.int .i64 A, .int .i64 B, .int .i64 K, .int .i64 N, .float .f64 f, .slice ad n cap, .int .i64 L, .int .i64 M, .float .f64 h, .slice ad' m cap'] 40))
  have i1 := spec_in A 1 400
  have i2 := spec_in B 0 400
  have i3 := spec_KeyOk K N f ad n cap hf hn
  have i4 := spec_ItemOk L M h ad' m cap' hh hm
  have e : okT A B K N f n L M h m = (decide (1 ≤ A ∧ A ≤ 400) && (decide (0 ≤ B ∧ B ≤ 400) && (okK K N f n && (okI L M h m && decide (L ≠ 0))))) := by
    unfold okT
    by_cases h1 : 1 ≤ A ∧ A ≤ 400 <;> by_cases h2 : 0 ≤ B ∧ B ≤ 400 <;> simp [h1, h2]
  rw [e]
  clear e
  generalize decide (1 ≤ A ∧ A ≤ 400) = x1 at *
  generalize decide (0 ≤ B ∧ B ≤ 400) = x2 at *
  generalize okK K N f n = x3 at *
  generalize okI L M h m = x4 at *
  generalize hx5 : decide (L ≠ 0) = x5
  go_enter Tryz.func21, Tryz.ntmps21
  go_wp2_with fail
  refine (i1 _).mono ?_
  rintro e w1 ⟨rfl, h1⟩
  subst w1
  obtain ⟨c0, c1, c2, c3, c4, c5, c6, c7, c8, c9⟩ := hB.out
  clear i1
  cases x1
  · go_wp2_with fail
    go_ret
    exact ⟨rfl, HB.out⟩
  go_wp2_with fail
  refine (i2 _).mono ?_
  rintro e w1 ⟨rfl, h1⟩
  subst w1
  clear i2
  cases x2
  · go_wp2_with fail
    go_ret
    exact ⟨rfl, HB.out⟩
  go_wp2_with fail
  refine (i3 _).mono ?_
  rintro e w1 ⟨rfl, b1⟩
  clear c0 c1 c2 c3 c4 c5 c6 c7 c8 c9 i3
  obtain ⟨c0, c1, c2, c3, c4, c5, c6, c7, c8, c9⟩ := hB.out.below b1 (Nat.le_refl _)
  replace hB := hid (hB.out.below b1 (Nat.le_refl _))
  replace HB := hid (HB.out.trans (b1.mono HB.out.size))
  clear b1
  cases x3
  · go_wp2_with fail
    go_ret
    exact ⟨rfl, HB.out⟩
  go_wp2_with fail
  refine (i4 _).mono ?_
  rintro e w2 ⟨rfl, b1⟩
  clear c0 c1 c2 c3 c4 c5 c6 c7 c8 c9 i4
  obtain ⟨c0, c1, c2, c3, c4, c5, c6, c7, c8, c9⟩ := hB.out.below b1 (Nat.le_refl _)
  replace HB := hid (HB.out.trans (b1.mono HB.out.size))
  clear b1
  cases x4
  · go_wp2_with fail
    go_ret
    exact ⟨rfl, HB.out⟩
  have q : (L != 0) = x5 := by rw [← hx5]; by_cases h0 : L = 0 <;> simp [h0]
  clear hx5
  go_wp2_with fail
  go_ret
  exact ⟨rfl, HB.out⟩
end Go.Proofs.YtebhipicfgnajaaGreat
/- The contracts of PutNum, the specification's and the program's: both answer the bytes 'putL', in new memory. For every argument. -/



namespace Go.Proofs.YtebhipicfgnajaaGreat
set_option maxRecDepth 100000
open Go.RowKit

set_option maxHeartbeats 1600000 in
theorem spec_PutNum_yes (n size : Nat) (w : World) (h1 : 1 ≤ size) (h8 : size ≤ 8) (hn : n ≤ 9223372036854775807) :
    Calls Tryz.prog 82 #[.int .i64 n, .int .i64 size] w fun e w' =>
      ∃ v, e = .returned v ∧ w'.ownsRow w.heap.size 5 1 v (putL n size).length (bys (putL n size)) ∧ Below w.heap.size w w' := by
  obtain ⟨i0, hi, hz0, hz1, hz2⟩ := info_parts Tryz.info5
  go_enter Tryz.func82, Tryz.ntmps82
  go_wp2
  go_loopw [0, 5, 6] (fun sn v i wr => ∃ k : Nat, k ≤ size ∧ i = .int .i64 k ∧ sn = .int .i64 (sh n k : Nat) ∧ wr.ownsRow w.heap.size 5 1 v k (bys (dig n k)) ∧ Below w.heap.size w wr) (fun _ _ i _ => size - (intOf i).toNat)
  case atStart => exact ⟨0, Nat.zero_le _, rfl, by rw [sh_zero], World.ownsRow_nil _ _ _ _, Below.refl _ _⟩
  case round =>
    obtain ⟨k, hk, rfl, rfl, hown, hnx⟩ := hrel
    have hsl := sh_le n k
    have hss := hid (sh_succ n k)
    have hds := hid (dig_succ n k)
    generalize hmk0 : sh n k = m at hsl hss hds
    have hmk := hid hmk0
    clear hmk0
    by_cases hlt : k < size
    · go_wp2_with (at_builtin; refine wpList_append_own _ rfl _ _ 22 rfl w.heap.size 5 i0 (.int .u8 0) 1 1 Tryz.underlying22 hi hz0 hz1 hz2 rfl (by decide) _ _ _ rfl (hown.alloc _) ⟨wr.heap.size, 0, none⟩ 1 1 [.int .u8 ((m : Int) % 256)] rfl rfl (cell_one_new _ _ _) ?c2 ?c3 ?c4 ?c5 ?_)
      case c2 => intro u hu; simp at hu; subst hu; rfl
      case c3 => unfold maxLen; omega
      case c4 => omega
      case c5 => have := hnx.size; simp; omega
      intro v' w1 hown' hgrow _
      have hnx' : Below w.heap.size w w1 := (hnx.alloc hnx.size _).grown hgrow (by have := hnx.size; simp; omega) (fun j hj => (hown.lt j hj).1)
      have H1 := hid hown'
      clear hown' hgrow hown hnx
      go_wp2
      go_roundw
      case rel =>
        refine ⟨k + 1, by omega, by go_num, ?_, ?_, hnx'⟩
        · rw [hss.out]; go_num
        · rw [hds.out, bys_append]; exact H1.out
      case measure => simp [intOf]; omega
    · obtain rfl : k = size := by omega
      by_cases hm : 0 < m
      · go_wp2
        go_ret
        exact ⟨_, rfl, by rw [putL_big n k (by rw [hmk.out]; exact hm)]; exact World.ownsRow_nil _ _ _ _, hnx⟩
      · go_wp2
        go_ret
        exact ⟨_, rfl, by rw [putL_yes n k h1 h8 (by rw [hmk.out]; omega), dig_length]; exact hown, hnx⟩

set_option maxHeartbeats 1600000 in
theorem spec_PutNum_no (n size : Int) (w : World) (h : ¬ (1 ≤ size ∧ size ≤ 8 ∧ 0 ≤ n)) :
    Calls Tryz.prog 82 #[.int .i64 n, .int .i64 size] w fun e w' => e = .returned (.slice none 0 0) ∧ w' = w := by
  by_cases a1 : size < 1
  · go_enter Tryz.func82, Tryz.ntmps82
    go_wp2
    go_ret
    exact ⟨rfl, rfl⟩
  by_cases a2 : 8 < size
  · go_enter Tryz.func82, Tryz.ntmps82
    go_wp2
    go_ret
    exact ⟨rfl, rfl⟩
  have a3 : n < 0 := by omega
  go_enter Tryz.func82, Tryz.ntmps82
  go_wp2
  go_ret
  exact ⟨rfl, rfl⟩

theorem spec_PutNum (n size : Int) (w : World) (hn : n ≤ 9223372036854775807) :
    Calls Tryz.prog 82 #[.int .i64 n, .int .i64 size] w fun e w' =>
      ∃ v, e = .returned v ∧ w'.ownsRow w.heap.size 5 1 v (putL n size).length (bys (putL n size)) ∧ Below w.heap.size w w' := by
  by_cases h : 1 ≤ size ∧ size ≤ 8 ∧ 0 ≤ n
  · obtain ⟨N, rfl⟩ := Int.eq_ofNat_of_zero_le h.2.2
    obtain ⟨S, rfl⟩ := Int.eq_ofNat_of_zero_le (show 0 ≤ size by omega)
    exact spec_PutNum_yes N S w (by omega) (by omega) (by omega)
  · refine (spec_PutNum_no n size w h).mono fun e w' ⟨he, hw⟩ => ?_
    subst hw
    exact ⟨_, he, by rw [putL_no n size h]; exact World.ownsRow_nil _ _ _ _, Below.refl _ _⟩

theorem set_dig (n k size : Nat) (hk : k < size) : (bys (dig n k) ++ List.replicate (size - k) (Value.int .u8 0)).set k (.int .u8 ((sh n k : Int) % 256)) = bys (dig n (k + 1)) ++ List.replicate (size - (k + 1)) (Value.int .u8 0) := by
  rw [List.set_append_right _ _ (by simp [bys, dig_length])]
  obtain ⟨m, hm⟩ : ∃ m, size - k = m + 1 := ⟨size - k - 1, by omega⟩
  rw [hm, show size - (k + 1) = m by omega, bys_length, dig_length, Nat.sub_self, List.replicate_succ, List.set_cons_zero, dig_succ, bys_append]
  simp [bys]

set_option maxHeartbeats 1600000 in
theorem impl_PutNum_yes (n size : Nat) (w : World) (h1 : 1 ≤ size) (h8 : size ≤ 8) (hn : n ≤ 9223372036854775807) :
    Calls Tryz.prog 177 #[.int .i64 n, .int .i64 size] w fun e w' =>
      ∃ v, e = .returned v ∧ w'.ownsRow w.heap.size 5 1 v (putL n size).length (bys (putL n size)) ∧ Below w.heap.size w w' := by
  obtain ⟨i0, hi, hz0, hz1, hz2⟩ := info_parts Tryz.info5
  go_enter Tryz.func177, Tryz.ntmps177
  go_wp2_with (at_make; refine wpList_make_full _ rfl _ _ 22 rfl w.heap.size 5 i0 (.int .u8 0) 1 Tryz.underlying22 hi hz0 hz1 _ _ _ _ size rfl rfl (by omega) (by omega) ?b2 ?b3 (Nat.le_refl _) ?_)
  case b2 => rw [hz2]; omega
  case b3 => unfold maxLen; omega
  intro w0 hown0 hgrow0
  go_wp2
  go_loopw [5, 7, 24] (fun r _ i wr => ∃ k : Nat, k ≤ size ∧ i = .int .i64 k ∧ r = .int .u64 (sh n k : Nat) ∧ wr.ownsRow w.heap.size 5 1 (.slice (some ⟨w.heap.size, 0, none⟩) size size) size (bys (dig n k) ++ List.replicate (size - k) (Value.int .u8 0)) ∧ Below w.heap.size w wr)
    (fun _ _ i _ => size - (intOf i).toNat)
  case atStart =>
    refine ⟨0, Nat.zero_le _, rfl, by rw [sh_zero], ?_, (Below.refl _ _).grown hgrow0 (Nat.le_refl _) (fun k h => by cases h)⟩
    rw [toList_madeCells_one] at hown0
    simpa [bys, dig] using hown0
  case round =>
    obtain ⟨k, hk, rfl, rfl, hown, hnx⟩ := hrel
    have hsl := sh_le n k
    have hss := hid (sh_succ n k)
    have hds := hid (fun h => set_dig n k size h)
    generalize hmk0 : sh n k = m at hsl hss hds
    have hmk := hid hmk0
    clear hmk0
    by_cases hlt : k < size
    · have hcy : wr.cell? ⟨w.heap.size, k, none⟩ = some (.int .u8 0) := by
        rw [hown.cellAt k (by omega), List.getElem?_append_right (by simp [bys, dig_length])]
        simp [bys, dig_length, show 0 < size - k by omega]
      have hfr : wr.frozen? ⟨w.heap.size, k, none⟩ = false := hown.frozenAt k
      have R := hown.stored k (.int .u8 ((m : Int) % 256))
      rw [hds.out hlt] at R
      have R1 := hid R
      clear R hown
      go_wp2
      go_roundw
      case rel => exact ⟨k + 1, by omega, by go_num, by rw [hss.out]; go_num, R1.out.1, hnx.setCell (Nat.le_refl _) _⟩
      case measure => simp [intOf]; omega
    · obtain rfl : k = size := by omega
      by_cases hm : 0 < m
      · go_wp2
        go_ret
        exact ⟨_, rfl, by rw [putL_big n k (by rw [hmk.out]; exact hm)]; exact World.ownsRow_nil _ _ _ _, hnx⟩
      · go_wp2
        go_ret
        exact ⟨_, rfl, by rw [putL_yes n k h1 h8 (by rw [hmk.out]; omega), dig_length]; simpa using hown, hnx⟩

set_option maxHeartbeats 1600000 in
theorem impl_PutNum_no (n size : Int) (w : World) (h : ¬ (1 ≤ size ∧ size ≤ 8 ∧ 0 ≤ n)) :
    Calls Tryz.prog 177 #[.int .i64 n, .int .i64 size] w fun e w' => e = .returned (.slice none 0 0) ∧ w' = w := by
  by_cases a3 : n < 0
  · go_enter Tryz.func177, Tryz.ntmps177
    go_wp2
    go_ret
    exact ⟨rfl, rfl⟩
  by_cases a1 : size < 1
  · go_enter Tryz.func177, Tryz.ntmps177
    go_wp2
    go_ret
    exact ⟨rfl, rfl⟩
  have a2 : 8 < size := by omega
  go_enter Tryz.func177, Tryz.ntmps177
  go_wp2
  go_ret
  exact ⟨rfl, rfl⟩

theorem impl_PutNum (n size : Int) (w : World) (hn : n ≤ 9223372036854775807) :
    Calls Tryz.prog 177 #[.int .i64 n, .int .i64 size] w fun e w' =>
      ∃ v, e = .returned v ∧ w'.ownsRow w.heap.size 5 1 v (putL n size).length (bys (putL n size)) ∧ Below w.heap.size w w' := by
  by_cases h : 1 ≤ size ∧ size ≤ 8 ∧ 0 ≤ n
  · obtain ⟨N, rfl⟩ := Int.eq_ofNat_of_zero_le h.2.2
    obtain ⟨S, rfl⟩ := Int.eq_ofNat_of_zero_le (show 0 ≤ size by omega)
    exact impl_PutNum_yes N S w (by omega) (by omega) (by omega)
  · refine (impl_PutNum_no n size w h).mono fun e w' ⟨he, hw⟩ => ?_
    subst hw
    exact ⟨_, he, by rw [putL_no n size h]; exact World.ownsRow_nil _ _ _ _, Below.refl _ _⟩
end Go.Proofs.YtebhipicfgnajaaGreat
/- The contract of the specification's TupleBytes. Conditions: texts of at most 2^21 bytes. -/




namespace Go.Proofs.YtebhipicfgnajaaGreat
open Go.RowKit
set_option maxRecDepth 100000

theorem putL_four (n : Int) (h0 : 0 ≤ n) (h1 : n ≤ 4294967295) : (putL n 4).length = 4 := by
  obtain ⟨k, rfl⟩ := Int.eq_ofNat_of_zero_le h0
  have : sh k 4 = 0 := by unfold sh; exact Nat.div_eq_of_lt (by omega)
  show (putL ((k : Nat) : Int) ((4 : Nat) : Int)).length = 4
  rw [putL_yes k 4 (by omega) (by omega) this, dig_length]
theorem bytesI_len' (K N : Int) (B : Nat) (zs : List Int) (h : zs.length ≤ 40) : 0 < (bytesI K N B zs).length ∧ (bytesI K N B zs).length ≤ 41 := bytesI_len K N B zs h
theorem keyB_pos {K N : Int} {f n : Nat} {zs : List Int} (h : okK K N f n = true) (hl : zs.length = n) : 0 < (keyB K N f n zs).length ∧ (keyB K N f n zs).length ≤ 41 := by
  rw [keyB, if_pos h]
  exact bytesI_len' _ _ _ _ (by have := (okI_lim (okK_I h).1).2; omega)
theorem valB_pos {K N : Int} {f n : Nat} {zs : List Int} (h : okI K N f n = true) (h0 : K ≠ 0) (hl : zs.length = n) : 0 < (valB K N f n zs).length ∧ (valB K N f n zs).length ≤ 41 := by
  rw [valB, if_pos ⟨h, h0⟩]
  exact bytesI_len' _ _ _ _ (by have := (okI_lim h).2; omega)
theorem own_some {w : World} {base m : Nat} {v : Value} {zs : List Int} (h : w.ownsRow base 5 1 v m (bys zs)) (hbd : ∀ i, 0 ≤ zs.getD i 0 ∧ zs.getD i 0 ≤ 255) (hm : 0 < m) : ∃ g c, v = .slice (some ⟨g, 0, none⟩) m c ∧ Reads w (some ⟨g, 0, none⟩) m zs ∧ base ≤ g ∧ g < w.heap.size := by
  obtain ⟨ad, c, rfl, r, hh⟩ := Reads.own h hbd
  rcases hh with rfl | ⟨g, rfl, h1, h2⟩
  · rcases r.cells with h0 | ⟨b, o, e, _⟩
    · omega
    · cases e
  · exact ⟨g, c, rfl, r, h1, h2⟩
theorem own_slice {w : World} {base m : Nat} {e : TypeId} {s : Nat} {v : Value} {xs : List Value} (h : w.ownsRow base e s v m xs) : ∃ a c, v = .slice a m c := by
  rcases h.2 with ⟨e, e0⟩ | ⟨g, cap, cur, e, _⟩
  · exact ⟨none, 0, by rw [e, e0]⟩
  · exact ⟨_, cap, e⟩

set_option maxHeartbeats 12800000 in
theorem spec_TupleBytes (A B K N : Int) (f : Nat) {ad : Option Addr} {n : Nat} (cap : Nat) (L M : Int) (h : Nat) {ad' : Option Addr} {m : Nat} (cap' : Nat) {zs ys : List Int} {w : World} (rk : Reads w ad n zs) (rv : Reads w ad' m ys) (hnil : ad = none → cap = 0) (hnil' : ad' = none → cap' = 0) (hn : n ≤ 2097152) (hm : m ≤ 2097152) (hN : -9223372036854775808 ≤ N ∧ N ≤ 9223372036854775807) (hM : -9223372036854775808 ≤ M ∧ M ≤ 9223372036854775807) (hf : f < 18446744073709551616) (hh : h < 18446744073709551616) :
    Calls Tryz.prog 24 #[.agg #[.int .i64 A, .int .i64 B, .int .i64 K, .int .i64 N, .float .f64 f, .slice ad n cap, .int .i64 L, .int .i64 M, .float .f64 h, .slice ad' m cap']] w fun e w' => ∃ v, e = .returned v ∧ w'.ownsRow w.heap.size 5 1 v (bytesT A B K N f n zs L M h m ys).length (bys (bytesT A B K N f n zs L M h m ys)) ∧ Below w.heap.size w w' := by
  have HB := hid (Below.alloc1 w (.cells #[.int .i64 A, .int .i64 B, .int .i64 K, .int .i64 N, .float .f64 f, .slice ad n cap, .int .i64 L, .int .i64 M, .float .f64 h, .slice ad' m cap'] 40))
  have HX := hid (BoxT.new w A B K N f ad n cap L M h ad' m cap' 40)
  have RK := hid (rk.below HB.out (Nat.le_refl _))
  have RV := hid (rv.below HB.out (Nat.le_refl _))
  have HZ := hid (show w.heap.size + 1 ≤ (w.alloc (.cells #[.int .i64 A, .int .i64 B, .int .i64 K, .int .i64 N, .float .f64 f, .slice ad n cap, .int .i64 L, .int .i64 M, .float .f64 h, .slice ad' m cap'] 40)).heap.size from Nat.le_of_eq (alloc_size w _).symm)
  have i0 := spec_TupleOk A B K N f ad n cap L M h ad' m cap' hf hh hn hm
  obtain ⟨ok, hok⟩ : ∃ b, okT A B K N f n L M h m = b := ⟨_, rfl⟩
  rw [hok] at i0
  cases ok
  · have HE := hid (show bytesT A B K N f n zs L M h m ys = [] by unfold bytesT; rw [if_neg (by rw [hok]; simp)])
    clear hok rk rv
    go_enter Tryz.func24, Tryz.ntmps24
    go_wp2_with fail
    refine (i0 _).mono ?_
    rintro e w1 ⟨rfl, b⟩
    replace HB := hid (HB.out.trans (b.mono HB.out.size))
    clear b i0
    go_wp2_with fail
    go_ret
    exact ⟨_, rfl, by rw [HE.out]; exact World.ownsRow_nil _ _ _ _, HB.out⟩
  have HE := hid (show bytesT A B K N f n zs L M h m ys = layT A B (keyB K N f n zs) (valB L M h m ys) by unfold bytesT; rw [if_pos hok])
  obtain ⟨⟨a1, a2, a3, a4⟩, k1, v1, v2⟩ := okT_iff.1 hok
  have lk := keyB_pos (zs := zs) k1 rk.len
  have lv := valB_pos (zs := ys) v1 v2 rv.len
  have bk := (keyB_bd (K := K) (N := N) (f := f) (n := n) (zs := zs) rfl rk.bd (by have := (okI_lim (okK_I k1).1).2; have := rk.len; omega)).1
  have bv := (valB_bd (K := L) (N := M) (f := h) (n := m) (zs := ys) rfl rv.bd (by have := (okI_lim v1).2; have := rv.len; omega)).1
  have e1 := putL_four A (by omega) (by omega)
  have e2 := putL_four B (by omega) (by omega)
  have d1 := putL_bd A 4
  have d2 := putL_bd B 4
  have f1 := fun W => spec_PutNum A 4 W (by omega)
  have f2 := fun W => spec_PutNum B 4 W (by omega)
  unfold layT at HE
  have IK : Hid (∀ W : World, Reads W ad n zs → Calls Tryz.prog 80 #[.agg #[.int .i64 K, .int .i64 N, .float .f64 f, .slice ad n cap]] W fun e w' => ∃ v, e = .returned v ∧ w'.ownsRow W.heap.size 5 1 v (keyB K N f n zs).length (bys (keyB K N f n zs)) ∧ Below W.heap.size W w') := hid fun W r => spec_KeyBytes K N f cap hnil r hn hN.1 hN.2 hf
  have IV : Hid (∀ W : World, Reads W ad' m ys → Calls Tryz.prog 81 #[.agg #[.int .i64 L, .int .i64 M, .float .f64 h, .slice ad' m cap']] W fun e w' => ∃ v, e = .returned v ∧ w'.ownsRow W.heap.size 5 1 v (valB L M h m ys).length (bys (valB L M h m ys)) ∧ Below W.heap.size W w') := hid fun W r => spec_ValueBytes L M h cap' hnil' r hm hM.1 hM.2 hh
  generalize bytesT A B K N f n zs L M h m ys = RES at *
  generalize keyB K N f n zs = KB at *
  generalize valB L M h m ys = VB at *
  generalize putL A 4 = B1 at *
  generalize putL B 4 = B2 at *
  rw [e1] at f1
  rw [e2] at f2
  generalize hkl : KB.length = kl at *
  generalize hvl : VB.length = vl at *
  have wk : IntKind.u8.wrap (kl : Int) = (kl : Int) := by simp [IntKind.wrap, IntKind.bits, IntKind.signed]; omega
  have wv : IntKind.u8.wrap (vl : Int) = (vl : Int) := by simp [IntKind.wrap, IntKind.bits, IntKind.signed]; omega
  have FF := hid (And.intro f1 f2)
  have DD := hid (And.intro d1 (And.intro d2 (And.intro bk bv)))
  clear hok k1 v1 v2 f1 f2 d1 d2 bk bv rk rv
  obtain ⟨i1, hi, hz0, hz1, hz2⟩ := info_parts Tryz.info5
  go_enter Tryz.func24, Tryz.ntmps24
  go_wp2_with fail
  generalize w.alloc (.cells #[.int .i64 A, .int .i64 B, .int .i64 K, .int .i64 N, .float .f64 f, .slice ad n cap, .int .i64 L, .int .i64 M, .float .f64 h, .slice ad' m cap'] 40) = W0 at *
  refine (i0 _).mono ?_
  rintro e w1 ⟨rfl, b⟩
  replace HX := hid (HX.out.below b (Nat.le_refl _))
  replace RK := hid (RK.out.below b (Nat.le_refl _))
  replace RV := hid (RV.out.below b (Nat.le_refl _))
  replace HB := hid (HB.out.trans (b.mono HB.out.size))
  clear b i0 HZ
  obtain ⟨c0, c1, c2, c3, c4, c5, c6, c7, c8, c9⟩ := HX.out
  go_wp2_with fail
  clear c0 c1 c2 c3 c4 c5 c6 c7 c8 c9
  refine (IK.out _ RK.out).mono ?_
  rintro e w2 ⟨v, rfl, o, b⟩
  obtain ⟨gk, ck, rfl, r, _⟩ := own_some o DD.out.2.2.1 lk.1
  replace HX := hid (HX.out.below b (Nat.le_refl _))
  replace RV := hid (RV.out.below b (Nat.le_refl _))
  replace HB := hid (HB.out.trans (b.mono HB.out.size))
  have QK := hid r
  clear b o r IK RK
  obtain ⟨c0, c1, c2, c3, c4, c5, c6, c7, c8, c9⟩ := HX.out
  go_wp2_with fail
  clear c0 c1 c2 c3 c4 c5 c6 c7 c8 c9
  refine (IV.out _ RV.out).mono ?_
  rintro e w3 ⟨v, rfl, o, b⟩
  obtain ⟨gv, cv, rfl, r, _⟩ := own_some o DD.out.2.2.2 lv.1
  replace HX := hid (HX.out.below b (Nat.le_refl _))
  replace QK := hid (QK.out.below b (Nat.le_refl _))
  replace HB := hid (HB.out.trans (b.mono HB.out.size))
  have QV := hid r
  clear b o r IV RV
  obtain ⟨c0, c1, c2, c3, c4, c5, c6, c7, c8, c9⟩ := HX.out
  go_wp2_with fail
  clear c0 c1 c2 c3 c4 c5 c6 c7 c8 c9
  refine (FF.out.1 _).mono ?_
  rintro e w4 ⟨v, rfl, o, b⟩
  obtain ⟨a4, n4, rfl⟩ := own_slice o
  have HW := hid b
  have HO := hid o
  clear b o
  have HX4 := hid (HX.out.below HW.out (Nat.le_refl _))
  obtain ⟨c0, c1, c2, c3, c4, c5, c6, c7, c8, c9⟩ := HX4.out
  clear HX4
  go_wp2_with fail
  clear c0 c1 c2 c3 c4 c5 c6 c7 c8 c9
  refine (FF.out.2 _).mono ?_
  rintro e w5 ⟨v, rfl, o, b⟩
  obtain ⟨g5, c5, rfl, r, _⟩ := own_some o DD.out.2.1 (by omega)
  replace HO := hid (owns_below b (Nat.le_refl _) HO.out)
  replace HW := hid (HW.out.trans (b.mono HW.out.size))
  have HR := hid r
  clear b o r
  go_wp2_with (at_builtin; refine wpList_append_own _ rfl _ _ 22 rfl w3.heap.size 5 i1 (.int .u8 0) 1 1 Tryz.underlying22 hi hz0 hz1 hz2 rfl (by decide) _ _ _ rfl HO.out ⟨g5, 0, none⟩ 4 c5 (bys B2) rfl ?da1 HR.out.news (bys_one _) ?da3 ?da4 ?da5 ?_)
  case da1 => rw [bys_length, e2]
  case da3 => unfold maxLen; omega
  case da4 => omega
  case da5 => have := HW.out.size; simp; try omega
  intro v w6 o g _
  obtain ⟨a6, n6, rfl⟩ := own_slice o
  replace HW := hid (HW.out.grown g HW.out.size (fun k hk => (HO.out.lt k hk).1))
  replace HO := hid o
  clear o g HR
  go_wp2_with (at_builtin; refine wpList_append_own _ rfl _ _ 22 rfl w3.heap.size 5 i1 (.int .u8 0) 1 1 Tryz.underlying22 hi hz0 hz1 hz2 rfl (by decide) _ _ _ rfl (HO.out.alloc _) ⟨w6.heap.size, 0, none⟩ 1 1 [.int .u8 (kl : Int)] rfl ?db1 (cell_one_new _ _ _) ?db2 ?db3 ?db4 ?db5 ?_)
  case db1 => rfl
  case db2 => intro u hu; simp at hu; subst hu; rfl
  case db3 => unfold maxLen; omega
  case db4 => omega
  case db5 => have := HW.out.size; simp; try omega
  intro v w7 o g _
  obtain ⟨a7, n7, rfl⟩ := own_slice o
  replace HW := hid ((HW.out.alloc HW.out.size _).grown g (by have := HW.out.size; simp; omega) (fun k hk => (HO.out.lt k hk).1))
  replace HO := hid o
  clear o g
  have QK7 := hid (QK.out.below HW.out (Nat.le_refl _))
  go_wp2_with (at_builtin; refine wpList_append_own _ rfl _ _ 22 rfl w3.heap.size 5 i1 (.int .u8 0) 1 1 Tryz.underlying22 hi hz0 hz1 hz2 rfl (by decide) _ _ _ rfl HO.out ⟨gk, 0, none⟩ kl ck (bys KB) rfl ?dc1 QK7.out.news (bys_one _) ?dc3 ?dc4 ?dc5 ?_)
  case dc1 => simp [bys_length, hkl]
  case dc3 => unfold maxLen; omega
  case dc4 => omega
  case dc5 => have := HW.out.size; simp; try omega
  intro v w8 o g _
  obtain ⟨a8, n8, rfl⟩ := own_slice o
  replace HW := hid (HW.out.grown g HW.out.size (fun k hk => (HO.out.lt k hk).1))
  replace HO := hid o
  clear o g QK7
  go_wp2_with (at_builtin; refine wpList_append_own _ rfl _ _ 22 rfl w3.heap.size 5 i1 (.int .u8 0) 1 1 Tryz.underlying22 hi hz0 hz1 hz2 rfl (by decide) _ _ _ rfl (HO.out.alloc _) ⟨w8.heap.size, 0, none⟩ 1 1 [.int .u8 (vl : Int)] rfl ?dd1 (cell_one_new _ _ _) ?dd2 ?dd3 ?dd4 ?dd5 ?_)
  case dd1 => rfl
  case dd2 => intro u hu; simp at hu; subst hu; rfl
  case dd3 => unfold maxLen; omega
  case dd4 => omega
  case dd5 => have := HW.out.size; simp; try omega
  intro v w9 o g _
  obtain ⟨a9, n9, rfl⟩ := own_slice o
  replace HW := hid ((HW.out.alloc HW.out.size _).grown g (by have := HW.out.size; simp; omega) (fun k hk => (HO.out.lt k hk).1))
  replace HO := hid o
  clear o g
  have QV9 := hid (QV.out.below HW.out (Nat.le_refl _))
  go_wp2_with (at_builtin; refine wpList_append_own _ rfl _ _ 22 rfl w3.heap.size 5 i1 (.int .u8 0) 1 1 Tryz.underlying22 hi hz0 hz1 hz2 rfl (by decide) _ _ _ rfl HO.out ⟨gv, 0, none⟩ vl cv (bys VB) rfl ?de1 QV9.out.news (bys_one _) ?de3 ?de4 ?de5 ?_)
  case de1 => simp [bys_length, hvl]
  case de3 => unfold maxLen; omega
  case de4 => omega
  case de5 => have := HW.out.size; simp; try omega
  intro v w10 o g _
  obtain ⟨a10, n10, rfl⟩ := own_slice o
  replace HW := hid (HW.out.grown g HW.out.size (fun k hk => (HO.out.lt k hk).1))
  replace HO := hid o
  clear o g QV9
  go_wp2_with fail
  go_ret
  have o := HO.out
  have he : RES.length = 9 + kl + 1 + vl := by rw [HE.out]; simp only [List.length_append, e1, e2, hkl, hvl, List.length_cons, List.length_nil]; omega
  refine ⟨_, rfl, ?_, HB.out.trans (HW.out.mono HB.out.size)⟩
  rw [he, HE.out]
  refine owns_base ?_ HB.out.size
  have eb : bys (B1 ++ (B2 ++ ([(kl : Int)] ++ (KB ++ ([(vl : Int)] ++ VB))))) = bys B1 ++ (bys B2 ++ .int .u8 (kl : Int) :: (bys KB ++ .int .u8 (vl : Int) :: bys VB)) := by simp [bys]
  rw [eb]
  exact o
end Go.Proofs.YtebhipicfgnajaaGreat
/- Bounds of a tuple's bytes. No program, no conditions. -/


namespace Go.Proofs.YtebhipicfgnajaaGreat
open Go.RowKit
set_option maxRecDepth 100000

theorem bdapp6 {A B : List Int} (ha : ∀ i, 0 ≤ A.getD i 0 ∧ A.getD i 0 ≤ 255) (hb : ∀ i, 0 ≤ B.getD i 0 ∧ B.getD i 0 ≤ 255) : ∀ i, 0 ≤ (A ++ B).getD i 0 ∧ (A ++ B).getD i 0 ≤ 255 := by
  intro i
  rw [getD_app]
  split
  · exact ha i
  · exact hb _
theorem layT_bd {A B : Int} {ks vs : List Int} (hk : ∀ i, 0 ≤ ks.getD i 0 ∧ ks.getD i 0 ≤ 255) (hv : ∀ i, 0 ≤ vs.getD i 0 ∧ vs.getD i 0 ≤ 255) (lk : ks.length ≤ 41) (lv : vs.length ≤ 41) : ∀ i, 0 ≤ (layT A B ks vs).getD i 0 ∧ (layT A B ks vs).getD i 0 ≤ 255 := by
  have one : ∀ k : Nat, k ≤ 41 → ∀ i, 0 ≤ [(k : Int)].getD i 0 ∧ [(k : Int)].getD i 0 ≤ 255 := fun k hk i => by
    match i with
    | 0 => show 0 ≤ (k : Int) ∧ (k : Int) ≤ 255; omega
    | i + 1 => simp
  unfold layT
  exact bdapp6 (putL_bd A 4) (bdapp6 (putL_bd B 4) (bdapp6 (one _ lk) (bdapp6 hk (bdapp6 (one _ lv) hv))))
theorem bytesT_bd {A B K N : Int} {f n : Nat} {zs : List Int} {L M : Int} {h m : Nat} {ys : List Int} (hz : ∀ i, 0 ≤ zs.getD i 0 ∧ zs.getD i 0 ≤ 255) (hy : ∀ i, 0 ≤ ys.getD i 0 ∧ ys.getD i 0 ≤ 255) (lz : zs.length = n) (ly : ys.length = m) : ∀ i, 0 ≤ (bytesT A B K N f n zs L M h m ys).getD i 0 ∧ (bytesT A B K N f n zs L M h m ys).getD i 0 ≤ 255 := by
  unfold bytesT
  split
  · rename_i hok
    obtain ⟨_, k1, v1, v2⟩ := okT_iff.1 hok
    exact layT_bd (keyB_bd rfl hz (by have := (okI_lim (okK_I k1).1).2; omega)).1 (valB_bd rfl hy (by have := (okI_lim v1).2; omega)).1 (keyB_len lz) (valB_len ly)
  · exact fun i => by simp
theorem bytesT_length {A B K N : Int} {f n : Nat} {zs : List Int} {L M : Int} {h m : Nat} {ys : List Int} (lz : zs.length = n) (ly : ys.length = m) : (bytesT A B K N f n zs L M h m ys).length ≤ 100 := by
  unfold bytesT
  split
  · have := putL_length A 4
    have := putL_length B 4
    have := keyB_len (K := K) (N := N) (f := f) lz
    have := valB_len (K := L) (N := M) (f := h) ly
    unfold layT
    simp only [List.length_append, List.length_cons, List.length_nil]
    omega
  · simp
end Go.Proofs.YtebhipicfgnajaaGreat
/- Tuples read of bytes, plain. No program, no conditions. -/


namespace Go.Proofs.YtebhipicfgnajaaGreat
open Go.RowKit
set_option maxRecDepth 100000

theorem same_zero {y : Nat} (h : Same 0 y) : y = 0 := by
  rcases h with ⟨h1, _⟩ | ⟨_, h2⟩
  · exact absurd h1 (by decide)
  · exact h2
theorem same_top {x y : Nat} (h : Same x y) (hx : x ≠ 9223372036854775808) : y ≠ 9223372036854775808 := by
  rcases h with ⟨_, h2⟩ | ⟨_, rfl⟩
  · intro e; subst e; exact absurd h2 (by decide)
  · exact hx
theorem back_ne {x : Nat} (hx : x < 18446744073709551616) (h : frank (back x) = x) : back x ≠ 9223372036854775808 := by
  intro e
  rw [e] at h
  have h4 : frank 9223372036854775808 = 9223372036854775808 := by decide
  rw [h4] at h
  subst h
  exact absurd e (by decide)

/-- What is read as a key is one, and has just these bytes. -/
theorem readK_ok {zs : List Int} {RK RN : Int} {RF : Nat} {RZ : List Int} (hR : readR unfK zs = (RK, RN, RF, RZ, true)) (hz : ∀ i, 0 ≤ zs.getD i 0 ∧ zs.getD i 0 ≤ 255) {y : Nat} (hs : Same RF y) :
    okK RK RN y RZ.length = true ∧ keyB RK RN y RZ.length RZ = zs ∧ (-9223372036854775808 ≤ RN ∧ RN ≤ 9223372036854775807) := by
  cases zs with
  | nil => simp [readR] at hR
  | cons k ts =>
    have hbt : ∀ i, 0 ≤ ts.getD i 0 ∧ ts.getD i 0 ≤ 255 := fun i => hz (i + 1)
    simp only [readR] at hR
    by_cases k3 : k = 3
    · subst k3
      rw [if_pos rfl] at hR
      by_cases h40 : ts.length ≤ 40
      · rw [if_pos h40] at hR
        simp only [Prod.mk.injEq] at hR
        obtain ⟨rfl, rfl, rfl, rfl, _⟩ := hR
        obtain rfl := same_zero hs
        exact ⟨by rw [okK, show okI 3 0 0 ts.length = true from decide_eq_true (by omega), decide_eq_true (by omega)]; rfl, keyB_text _ _ h40, by omega⟩
      · rw [if_neg h40] at hR; simp at hR
    · rw [if_neg k3] at hR
      by_cases h8 : ts.length = 8
      · rw [if_pos h8] at hR
        have hx : low ts < 18446744073709551616 := low_lt ts 0 (by omega)
        by_cases k1 : k = 1
        · subst k1
          rw [if_pos rfl] at hR
          simp only [Prod.mk.injEq] at hR
          obtain ⟨rfl, rfl, rfl, rfl, _⟩ := hR
          obtain rfl := same_zero hs
          have hxN : ((low ts : Int) - 9223372036854775808 + 9223372036854775808).toNat = low ts := by omega
          exact ⟨by rw [okK, show okI 1 ((low ts : Int) - 9223372036854775808) 0 ([] : List Int).length = true from decide_eq_true (by simp), decide_eq_true (by omega)]; rfl, by show keyB 1 _ 0 0 [] = _; rw [keyB_int, hxN, hi8_low h8 hbt], by omega⟩
        · rw [if_neg k1] at hR
          by_cases k2 : k = 2
          · subst k2
            rw [if_pos rfl] at hR
            cases hu : unfK (low ts) with
            | none => rw [hu] at hR; simp at hR
            | some y0 =>
              rw [hu] at hR
              simp only [Prod.mk.injEq] at hR
              obtain ⟨rfl, rfl, rfl, rfl, _⟩ := hR
              have hb : frank (back (low ts)) = low ts ∧ y0 = back (low ts) := by
                unfold unfK at hu
                split at hu
                · rename_i h; cases hu; exact ⟨h, rfl⟩
                · cases hu
              obtain ⟨hb, rfl⟩ := hb
              have hy := same_top hs (back_ne hx hb)
              exact ⟨by rw [okK, show okI 2 0 y ([] : List Int).length = true from decide_eq_true (by simp), decide_eq_true ⟨by omega, hy⟩]; rfl, by show keyB 2 0 y 0 [] = _; rw [keyB_float y hy, frank_sm hs, hb, hi8_low h8 hbt], by omega⟩
          · rw [if_neg k2] at hR; simp at hR
      · rw [if_neg h8] at hR; simp at hR

/-- What is read as a value is one, and has just these bytes. -/
theorem readV_ok {zs : List Int} {RK RN : Int} {RF : Nat} {RZ : List Int} (hR : readR unfV zs = (RK, RN, RF, RZ, true)) (hz : ∀ i, 0 ≤ zs.getD i 0 ∧ zs.getD i 0 ≤ 255) {y : Nat} (hs : Same RF y) :
    okI RK RN y RZ.length = true ∧ RK ≠ 0 ∧ valB RK RN y RZ.length RZ = zs ∧ (-9223372036854775808 ≤ RN ∧ RN ≤ 9223372036854775807) := by
  cases zs with
  | nil => simp [readR] at hR
  | cons k ts =>
    have hbt : ∀ i, 0 ≤ ts.getD i 0 ∧ ts.getD i 0 ≤ 255 := fun i => hz (i + 1)
    simp only [readR] at hR
    by_cases k3 : k = 3
    · subst k3
      rw [if_pos rfl] at hR
      by_cases h40 : ts.length ≤ 40
      · rw [if_pos h40] at hR
        simp only [Prod.mk.injEq] at hR
        obtain ⟨rfl, rfl, rfl, rfl, _⟩ := hR
        obtain rfl := same_zero hs
        exact ⟨decide_eq_true (by omega), by omega, valB_text _ _ h40, by omega⟩
      · rw [if_neg h40] at hR; simp at hR
    · rw [if_neg k3] at hR
      by_cases h8 : ts.length = 8
      · rw [if_pos h8] at hR
        have hx : low ts < 18446744073709551616 := low_lt ts 0 (by omega)
        by_cases k1 : k = 1
        · subst k1
          rw [if_pos rfl] at hR
          simp only [Prod.mk.injEq] at hR
          obtain ⟨rfl, rfl, rfl, rfl, _⟩ := hR
          obtain rfl := same_zero hs
          have hxN : ((low ts : Int) - 9223372036854775808 + 9223372036854775808).toNat = low ts := by omega
          exact ⟨decide_eq_true (by simp), by omega, by show valB 1 _ 0 0 [] = _; rw [valB_int, hxN, hi8_low h8 hbt], by omega⟩
        · rw [if_neg k1] at hR
          by_cases k2 : k = 2
          · subst k2
            rw [if_pos rfl] at hR
            cases hu : unfV (low ts) with
            | none => rw [hu] at hR; simp at hR
            | some y0 =>
              rw [hu] at hR
              simp only [Prod.mk.injEq] at hR
              obtain ⟨rfl, rfl, rfl, rfl, _⟩ := hR
              have hb : fbits (low ts) = low ts ∧ y0 = low ts := by
                unfold unfV at hu
                split at hu
                · rename_i h; cases hu; exact ⟨h, rfl⟩
                · cases hu
              obtain ⟨hb, rfl⟩ := hb
              exact ⟨decide_eq_true (by simp), by omega, by show valB 2 0 y 0 [] = _; rw [valB_float y, fbits_sm hs, hb, hi8_low h8 hbt], by omega⟩
          · rw [if_neg k2] at hR; simp at hR
      · rw [if_neg h8] at hR; simp at hR

/-- What is not read leaves nothing. -/
theorem readR_no {d : Nat → Option Nat} {zs : List Int} {RK RN : Int} {RF : Nat} {RZ : List Int} (hR : readR d zs = (RK, RN, RF, RZ, false)) : RK = 0 ∧ RN = 0 ∧ RF = 0 ∧ RZ = [] := by
  cases zs with
  | nil => simp only [readR, Prod.mk.injEq] at hR; exact ⟨hR.1.symm, hR.2.1.symm, hR.2.2.1.symm, hR.2.2.2.1.symm⟩
  | cons k ts =>
    simp only [readR] at hR
    split at hR
    · split at hR
      · simp at hR
      · simp only [Prod.mk.injEq] at hR; exact ⟨hR.1.symm, hR.2.1.symm, hR.2.2.1.symm, hR.2.2.2.1.symm⟩
    · split at hR
      · split at hR
        · simp at hR
        · split at hR
          · split at hR
            · simp at hR
            · simp only [Prod.mk.injEq] at hR; exact ⟨hR.1.symm, hR.2.1.symm, hR.2.2.1.symm, hR.2.2.2.1.symm⟩
          · simp only [Prod.mk.injEq] at hR; exact ⟨hR.1.symm, hR.2.1.symm, hR.2.2.1.symm, hR.2.2.2.1.symm⟩
      · simp only [Prod.mk.injEq] at hR; exact ⟨hR.1.symm, hR.2.1.symm, hR.2.2.1.symm, hR.2.2.2.1.symm⟩
theorem readR_len {d : Nat → Option Nat} {zs : List Int} {RK RN : Int} {RF : Nat} {RZ : List Int} (hR : readR d zs = (RK, RN, RF, RZ, true)) : 1 ≤ zs.length ∧ zs.length ≤ 41 := by
  cases zs with
  | nil => simp [readR] at hR
  | cons k ts =>
    simp only [readR] at hR
    simp only [List.length_cons]
    split at hR
    · split at hR
      · omega
      · simp at hR
    · split at hR
      · omega
      · simp at hR

/-- A tuple's parts, of its bytes. -/
def tkl (zs : List Int) : Nat := (zs.getD 8 0).toNat
def keyP (zs : List Int) : List Int := (zs.drop 9).take (tkl zs)
def valP (zs : List Int) : List Int := zs.drop (10 + tkl zs)
/-- The bytes are cut as a tuple's are. -/
def whole (zs : List Int) : Bool := decide (10 + tkl zs ≤ zs.length ∧ zs.getD (9 + tkl zs) 0 = ((zs.length - (10 + tkl zs) : Nat) : Int))
def limT (zs : List Int) : Bool := decide (1 ≤ numOf zs 0 4 ∧ numOf zs 0 4 ≤ 400 ∧ 0 ≤ numOf zs 4 4 ∧ numOf zs 4 4 ≤ 400)

structure Tu where
  A : Int
  B : Int
  K : Int
  N : Int
  F : Nat
  Z : List Int
  L : Int
  M : Int
  H : Nat
  Y : List Int
  ok : Bool
def t0 : Tu := ⟨0, 0, 0, 0, 0, [], 0, 0, 0, [], false⟩
/-- What is read of bytes. -/
def readT (zs : List Int) : Tu :=
  if (whole zs && (limT zs && ((readR unfK (keyP zs)).2.2.2.2 && (readR unfV (valP zs)).2.2.2.2))) = true then
    ⟨numOf zs 0 4, numOf zs 4 4, (readR unfK (keyP zs)).1, (readR unfK (keyP zs)).2.1, (readR unfK (keyP zs)).2.2.1, (readR unfK (keyP zs)).2.2.2.1, (readR unfV (valP zs)).1, (readR unfV (valP zs)).2.1, (readR unfV (valP zs)).2.2.1, (readR unfV (valP zs)).2.2.2.1, true⟩
  else t0
theorem readT_no {zs : List Int} (h : ¬ (whole zs = true ∧ limT zs = true ∧ (readR unfK (keyP zs)).2.2.2.2 = true ∧ (readR unfV (valP zs)).2.2.2.2 = true)) : readT zs = t0 := by
  unfold readT
  rw [if_neg]
  rw [Bool.and_eq_true, Bool.and_eq_true, Bool.and_eq_true]
  exact h
theorem readT_yes {zs : List Int} {RK RN : Int} {RF : Nat} {RZ : List Int} {SK SN : Int} {SF : Nat} {SZ : List Int} (h1 : whole zs = true) (h2 : limT zs = true) (hk : readR unfK (keyP zs) = (RK, RN, RF, RZ, true)) (hv : readR unfV (valP zs) = (SK, SN, SF, SZ, true)) :
    readT zs = ⟨numOf zs 0 4, numOf zs 4 4, RK, RN, RF, RZ, SK, SN, SF, SZ, true⟩ := by
  unfold readT
  rw [hk, hv, h1, h2]
  rfl

theorem drop_bd {zs : List Int} (h : ∀ i, 0 ≤ zs.getD i 0 ∧ zs.getD i 0 ≤ 255) (k : Nat) : ∀ i, 0 ≤ (zs.drop k).getD i 0 ∧ (zs.drop k).getD i 0 ≤ 255 := by
  intro i
  have := h (k + i)
  simpa [List.getD, List.getElem?_drop] using this
theorem take_bd {zs : List Int} (h : ∀ i, 0 ≤ zs.getD i 0 ∧ zs.getD i 0 ≤ 255) (k : Nat) : ∀ i, 0 ≤ (zs.take k).getD i 0 ∧ (zs.take k).getD i 0 ≤ 255 := by
  intro i
  by_cases hi : i < k
  · have := h i
    simpa [List.getD, List.getElem?_take, hi] using this
  · simp [List.getD, List.getElem?_take, hi]

theorem four {zs : List Int} (k : Nat) (h : k + 4 ≤ zs.length) : (zs.drop k).take 4 = [zs.getD k 0, zs.getD (k + 1) 0, zs.getD (k + 2) 0, zs.getD (k + 3) 0] := by
  apply List.ext_getElem?
  intro i
  rw [List.getElem?_take, List.getElem?_drop]
  match i with
  | 0 => simp [List.getD, List.getElem?_eq_getElem (show k < zs.length by omega)]
  | 1 => simp [List.getD, List.getElem?_eq_getElem (show k + 1 < zs.length by omega)]
  | 2 => simp [List.getD, List.getElem?_eq_getElem (show k + 2 < zs.length by omega)]
  | 3 => simp [List.getD, List.getElem?_eq_getElem (show k + 3 < zs.length by omega)]
  | i + 4 => simp; omega

theorem putL_num {zs : List Int} (hz : ∀ i, 0 ≤ zs.getD i 0 ∧ zs.getD i 0 ≤ 255) (k : Nat) (h : k + 4 ≤ zs.length) :
    putL (numOf zs k 4) 4 = (zs.drop k).take 4 ∧ 0 ≤ numOf zs k 4 ∧ numOf zs k 4 ≤ 4294967295 := by
  have b0 := hz k
  have b1 := hz (k + 1)
  have b2 := hz (k + 2)
  have b3 := hz (k + 3)
  have ev : val (byteFrom zs k) 0 4 = ((zs.getD (k + 3) 0 * 256 + zs.getD (k + 2) 0) * 256 + zs.getD (k + 1) 0) * 256 + zs.getD k 0 := by
    simp [val, byteFrom]
  have hy := (num_yes zs k 4 (by omega) (by omega) h (by rw [ev]; omega)).2
  have hy' : numOf zs k 4 = ((zs.getD (k + 3) 0 * 256 + zs.getD (k + 2) 0) * 256 + zs.getD (k + 1) 0) * 256 + zs.getD k 0 := by rw [← ev]; exact hy
  rw [hy', four k h]
  generalize zs.getD k 0 = x0 at *
  generalize zs.getD (k + 1) 0 = x1 at *
  generalize zs.getD (k + 2) 0 = x2 at *
  generalize zs.getD (k + 3) 0 = x3 at *
  obtain ⟨y0, rfl⟩ := Int.eq_ofNat_of_zero_le b0.1
  obtain ⟨y1, rfl⟩ := Int.eq_ofNat_of_zero_le b1.1
  obtain ⟨y2, rfl⟩ := Int.eq_ofNat_of_zero_le b2.1
  obtain ⟨y3, rfl⟩ := Int.eq_ofNat_of_zero_le b3.1
  have en : (((y3 : Int) * 256 + y2) * 256 + y1) * 256 + y0 = ((((y3 * 256 + y2) * 256 + y1) * 256 + y0 : Nat) : Int) := by omega
  rw [en]
  refine ⟨?_, by omega, by omega⟩
  have es : sh (((y3 * 256 + y2) * 256 + y1) * 256 + y0) 4 = 0 := by unfold sh; exact Nat.div_eq_of_lt (by omega)
  show putL (((((y3 * 256 + y2) * 256 + y1) * 256 + y0 : Nat) : Int)) ((4 : Nat) : Int) = _
  rw [putL_yes _ 4 (by omega) (by omega) es]
  simp only [dig, List.range_succ, List.range_zero, List.nil_append, List.map_append, List.map_cons, List.map_nil, sh]
  simp
  omega

theorem parts_eq {zs : List Int} (h : 10 + tkl zs ≤ zs.length) : zs = zs.take 4 ++ ((zs.drop 4).take 4 ++ ([zs.getD 8 0] ++ (keyP zs ++ ([zs.getD (9 + tkl zs) 0] ++ valP zs)))) := by
  have h9 : ∀ k, k < zs.length → zs.drop k = zs.getD k 0 :: zs.drop (k + 1) := fun k hk => drop_cons zs k hk
  have e1 : zs.drop (9 + tkl zs) = [zs.getD (9 + tkl zs) 0] ++ valP zs := by
    rw [h9 _ (by omega)]
    simp only [valP, List.singleton_append]
    rw [show 9 + tkl zs + 1 = 10 + tkl zs by omega]
  have e2 : zs.drop 9 = keyP zs ++ zs.drop (9 + tkl zs) := by
    rw [keyP, ← List.drop_drop]
    exact (List.take_append_drop _ _).symm
  have e3 : zs.drop 8 = [zs.getD 8 0] ++ zs.drop 9 := by rw [h9 8 (by omega)]; rfl
  have e4 : zs.drop 4 = (zs.drop 4).take 4 ++ zs.drop 8 := by
    conv => lhs; rw [← List.take_append_drop 4 (zs.drop 4)]
    rw [List.drop_drop]
  rw [← e1, ← e2, ← e3, ← e4]
  exact (List.take_append_drop 4 zs).symm

/-- Its bytes are those that it was read of, just where it is cut so and within limits. -/
theorem bytes_back {zs : List Int} (hz : ∀ i, 0 ≤ zs.getD i 0 ∧ zs.getD i 0 ≤ 255) (h : 10 + tkl zs ≤ zs.length) {RK RN : Int} {RF : Nat} {RZ : List Int} {SK SN : Int} {SF : Nat} {SZ : List Int}
    (hk : readR unfK (keyP zs) = (RK, RN, RF, RZ, true)) (hv : readR unfV (valP zs) = (SK, SN, SF, SZ, true)) {y x : Nat} (hy : Same RF y) (hx : Same SF x) :
    bytesT (numOf zs 0 4) (numOf zs 4 4) RK RN y RZ.length RZ SK SN x SZ.length SZ = zs ↔ whole zs = true ∧ limT zs = true := by
  obtain ⟨k1, k2, _⟩ := readK_ok hk (take_bd (drop_bd hz 9) _) hy
  obtain ⟨v1, v2, v3, _⟩ := readV_ok hv (drop_bd hz _) hx
  have hl : limT zs = true ↔ okT (numOf zs 0 4) (numOf zs 4 4) RK RN y RZ.length SK SN x SZ.length = true := by
    rw [okT_iff, limT, decide_eq_true_iff]
    exact ⟨fun h => ⟨h, k1, v1, v2⟩, fun h => h.1⟩
  obtain ⟨p1, _⟩ := putL_num hz 0 (by omega)
  obtain ⟨p2, _⟩ := putL_num hz 4 (by omega)
  have hkl : (keyP zs).length = tkl zs := by simp [keyP]; omega
  have hvl : (valP zs).length = zs.length - (10 + tkl zs) := by simp [valP]
  have h8 : zs.getD 8 0 = (tkl zs : Int) := by unfold tkl; have := (hz 8).1; omega
  have e : layT (numOf zs 0 4) (numOf zs 4 4) (keyP zs) (valP zs) = zs.take 4 ++ ((zs.drop 4).take 4 ++ ([zs.getD 8 0] ++ (keyP zs ++ ([((zs.length - (10 + tkl zs) : Nat) : Int)] ++ valP zs)))) := by
    have p1' : putL (numOf zs 0 4) 4 = zs.take 4 := p1
    have p2' : putL (numOf zs 4 4) 4 = (zs.drop 4).take 4 := p2
    rw [layT, p1', p2', hkl, hvl, h8]
  rw [bytesT, k2, v3]
  constructor
  · intro hb
    by_cases ho : okT (numOf zs 0 4) (numOf zs 4 4) RK RN y RZ.length SK SN x SZ.length = true
    · refine ⟨?_, hl.2 ho⟩
      rw [if_pos ho, e] at hb
      conv at hb => rhs; rw [parts_eq h]
      have c1 := List.append_cancel_left hb
      have c2 := List.append_cancel_left c1
      have c3 := List.append_cancel_left c2
      have c4 := List.append_cancel_left c3
      have c5 := List.append_cancel_right c4
      rw [whole, decide_eq_true_iff]
      exact ⟨h, (List.cons.inj c5).1.symm⟩
    · rw [if_neg ho] at hb
      rw [← hb] at h
      simp at h
  · rintro ⟨hw, hm⟩
    rw [if_pos (hl.1 hm), e]
    rw [whole, decide_eq_true_iff] at hw
    rw [← hw.2]
    exact (parts_eq h).symm
theorem whole_10 {zs : List Int} (h : whole zs = true) : 10 + tkl zs ≤ zs.length := by
  rw [whole, decide_eq_true_iff] at h; exact h.1
end Go.Proofs.YtebhipicfgnajaaGreat
/- Pages, plain: what is one, how much is used of it, where bytes would come, what is put and cleared. No program, no conditions. -/

namespace Go.Proofs.YtebhipicfgnajaaGreat

/-- The last slot is free. -/
def endF (ss : List (List Int)) : Bool := decide (0 < ss.length ∧ (ss.getD (ss.length - 1) []).length = 0)
/-- A slot is too long. -/
def anyL (ss : List (List Int)) : Bool := ss.any fun z => decide (92 < z.length)
def okP (L : Int) (ss : List (List Int)) : Bool := decide (0 ≤ L ∧ L ≤ 1000000) && decide (ss.length ≤ 16) && !endF ss && !anyL ss && decide (1 + ss.length + tot ss ≤ 240)
def usedP (L : Int) (ss : List (List Int)) : Int := if okP L ss = true then 1 + (ss.length : Int) + (tot ss : Int) else -1

structure OkP (L : Int) (ss : List (List Int)) : Prop where
  l0 : 0 ≤ L
  l1 : L ≤ 1000000
  n : ss.length ≤ 16
  e : 0 < ss.length → 0 < (ss.getD (ss.length - 1) []).length
  z : ∀ i, (ss.getD i []).length ≤ 92
  t : 1 + ss.length + tot ss ≤ 240

theorem anyL_at {ss : List (List Int)} (h : anyL ss = false) (i : Nat) : (ss.getD i []).length ≤ 92 := by
  by_cases hi : i < ss.length
  · have := List.any_eq_false.1 h (ss.getD i []) (by simp [List.getD, hi])
    simpa using this
  · rw [List.getD_eq_getElem?_getD, List.getElem?_eq_none (by omega)]; simp
theorem anyL_no {ss : List (List Int)} (h : ∀ i, i < ss.length → (ss.getD i []).length ≤ 92) : anyL ss = false := by
  refine List.any_eq_false.2 fun x hx => ?_
  obtain ⟨i, hi, rfl⟩ := List.mem_iff_getElem.1 hx
  have := h i hi
  simp [List.getD, hi] at this
  simpa using this
theorem anyL_yes {ss : List (List Int)} {i : Nat} (h : 92 < (ss.getD i []).length) : anyL ss = true := by
  cases e : anyL ss with
  | true => rfl
  | false => have := anyL_at e i; omega

theorem okP_of {L : Int} {ss : List (List Int)} (h : okP L ss = true) : OkP L ss := by
  unfold okP at h
  simp only [Bool.and_eq_true, decide_eq_true_eq, Bool.not_eq_true'] at h
  obtain ⟨⟨⟨⟨h1, h2⟩, h3⟩, h4⟩, h5⟩ := h
  refine ⟨h1.1, h1.2, h2, fun h0 => ?_, anyL_at h4, h5⟩
  unfold endF at h3
  have := of_decide_eq_false h3
  omega
theorem okP_mk {L : Int} {ss : List (List Int)} (h : OkP L ss) : okP L ss = true := by
  unfold okP
  simp only [Bool.and_eq_true, decide_eq_true_eq, Bool.not_eq_true']
  refine ⟨⟨⟨⟨⟨h.l0, h.l1⟩, h.n⟩, ?_⟩, anyL_no fun i _ => h.z i⟩, h.t⟩
  unfold endF
  refine decide_eq_false ?_
  rintro ⟨h1, h2⟩
  have := h.e h1
  omega
theorem usedP_yes {L : Int} {ss : List (List Int)} (h : okP L ss = true) : usedP L ss = 1 + (ss.length : Int) + (tot ss : Int) := by unfold usedP; rw [if_pos h]
theorem usedP_no {L : Int} {ss : List (List Int)} (h : okP L ss = false) : usedP L ss = -1 := by unfold usedP; rw [if_neg (by simp [h])]
theorem usedP_bd {L : Int} {ss : List (List Int)} : (okP L ss = false ∧ usedP L ss = -1) ∨ (okP L ss = true ∧ 1 ≤ usedP L ss ∧ usedP L ss ≤ 240) := by
  cases h : okP L ss with
  | false => exact .inl ⟨rfl, usedP_no h⟩
  | true => have := (okP_of h).t; exact .inr ⟨rfl, by rw [usedP_yes h]; omega, by rw [usedP_yes h]; omega⟩

/-- The first free slot, if there is one. -/
def freeP (ss : List (List Int)) : Option Nat := ss.findIdx? fun z => z.length == 0
theorem freeP_some {ss : List (List Int)} {k : Nat} (hk : k < ss.length) (h : (ss.getD k []).length = 0) (hj : ∀ j, j < k → (ss.getD j []).length ≠ 0) : freeP ss = some k := by
  unfold freeP
  rw [List.findIdx?_eq_some_iff_getElem]
  refine ⟨hk, by simpa [List.getD, hk] using h, fun j hjk => ?_⟩
  have := hj j hjk
  simpa [List.getD, show j < ss.length by omega] using this
theorem freeP_none {ss : List (List Int)} (h : ∀ j, j < ss.length → (ss.getD j []).length ≠ 0) : freeP ss = none := by
  unfold freeP
  rw [List.findIdx?_eq_none_iff]
  intro x hx
  obtain ⟨i, hi, rfl⟩ := List.mem_iff_getElem.1 hx
  have := h i hi
  simpa [List.getD, hi] using this
theorem freeP_is {ss : List (List Int)} {k : Nat} (h : freeP ss = some k) : k < ss.length ∧ (ss.getD k []).length = 0 ∧ ∀ j, j < k → (ss.getD j []).length ≠ 0 := by
  unfold freeP at h
  rw [List.findIdx?_eq_some_iff_getElem] at h
  obtain ⟨hk, h1, h2⟩ := h
  refine ⟨hk, by simpa [List.getD, hk] using h1, fun j hj => ?_⟩
  have := h2 j hj
  simpa [List.getD, show j < ss.length by omega] using this
theorem freeP_not {ss : List (List Int)} (h : freeP ss = none) (j : Nat) (hj : j < ss.length) : (ss.getD j []).length ≠ 0 := by
  unfold freeP at h
  rw [List.findIdx?_eq_none_iff] at h
  have := h (ss.getD j []) (by simp [List.getD, hj])
  simpa using this

/-- Behind the last slot, if there is room. -/
def backP (L : Int) (ss : List (List Int)) (n : Int) : Int := if ss.length < 16 ∧ usedP L ss + 1 + n ≤ 240 then (ss.length : Int) else -1
def placeP (L : Int) (ss : List (List Int)) (n : Int) : Int :=
  if okP L ss = false ∨ ¬ (1 ≤ n ∧ n ≤ 92) then -1 else
  match freeP ss with
  | some k => if usedP L ss + n ≤ 240 then (k : Int) else backP L ss n
  | none => backP L ss n
theorem placeP_no {L : Int} {ss : List (List Int)} {n : Int} (h : okP L ss = false ∨ ¬ (1 ≤ n ∧ n ≤ 92)) : placeP L ss n = -1 := by unfold placeP; rw [if_pos h]
theorem placeP_free {L : Int} {ss : List (List Int)} {n : Int} (h : okP L ss = true) (hn : 1 ≤ n ∧ n ≤ 92) {k : Nat} (hf : freeP ss = some k) (hu : usedP L ss + n ≤ 240) : placeP L ss n = k := by
  unfold placeP; rw [if_neg (by rw [h]; simpa using hn), hf]; simp only [if_pos hu]
theorem placeP_full {L : Int} {ss : List (List Int)} {n : Int} (h : okP L ss = true) (hn : 1 ≤ n ∧ n ≤ 92) {k : Nat} (hf : freeP ss = some k) (hu : ¬ usedP L ss + n ≤ 240) : placeP L ss n = backP L ss n := by
  unfold placeP; rw [if_neg (by rw [h]; simpa using hn), hf]; simp only [if_neg hu]
theorem placeP_none {L : Int} {ss : List (List Int)} {n : Int} (h : okP L ss = true) (hn : 1 ≤ n ∧ n ≤ 92) (hf : freeP ss = none) : placeP L ss n = backP L ss n := by
  unfold placeP; rw [if_neg (by rw [h]; simpa using hn), hf]

/-- Free slots at the end left out. -/
def trimP (ss : List (List Int)) : List (List Int) := (ss.reverse.dropWhile fun z => z.length == 0).reverse
theorem trimP_nil : trimP [] = [] := rfl
theorem trimP_end (ss : List (List Int)) (z : List Int) (h : z.length ≠ 0) : trimP (ss ++ [z]) = ss ++ [z] := by
  have e : (z.length == 0) = false := by simpa using h
  simp [trimP, e]
theorem trimP_free (ss : List (List Int)) (z : List Int) (h : z.length = 0) : trimP (ss ++ [z]) = trimP ss := by
  have e : (z.length == 0) = true := by simpa using h
  simp [trimP, e]
theorem trimP_ok {ss : List (List Int)} (h : 0 < ss.length → 0 < (ss.getD (ss.length - 1) []).length) : trimP ss = ss := by
  rcases List.eq_nil_or_concat ss with rfl | ⟨xs, z, rfl⟩
  · rfl
  · rw [List.concat_eq_append]
    refine trimP_end xs z ?_
    have := h (by simp)
    simp [List.getD] at this
    have h2 : z.length = 0 ↔ z = [] := List.length_eq_zero_iff
    omega
/-- What is left is the beginning up to the last slot that is not free. -/
theorem trimP_take (ss : List (List Int)) : ∀ k, k ≤ ss.length → (∀ j, k ≤ j → j < ss.length → (ss.getD j []).length = 0) → trimP ss = trimP (ss.take k) := by
  intro k hk h
  obtain ⟨m, hm⟩ : ∃ m, ss.length - k = m := ⟨_, rfl⟩
  induction m generalizing k with
  | zero => rw [List.take_of_length_le (by omega)]
  | succ m ih =>
    have e := ih (k + 1) (by omega) (fun j h1 h2 => h j (by omega) h2) (by omega)
    rw [e, List.take_succ_eq_append_getElem (by omega : k < ss.length)]
    refine trimP_free _ _ ?_
    have := h k (Nat.le_refl _) (by omega)
    simpa [List.getD, show k < ss.length by omega] using this
theorem trimP_stop {ss : List (List Int)} {k : Nat} (hk : k < ss.length) (h : (ss.getD k []).length ≠ 0) (hj : ∀ j, k < j → j < ss.length → (ss.getD j []).length = 0) : trimP ss = ss.take (k + 1) := by
  rw [trimP_take ss (k + 1) (by omega) (fun j h1 h2 => hj j (by omega) h2), List.take_succ_eq_append_getElem hk]
  refine trimP_end _ _ ?_
  simpa [List.getD, hk] using h
theorem trimP_all {ss : List (List Int)} (hj : ∀ j, j < ss.length → (ss.getD j []).length = 0) : trimP ss = [] := by
  rw [trimP_take ss 0 (Nat.zero_le _) (fun j _ h2 => hj j h2)]; rfl
theorem trimP_len (ss : List (List Int)) : (trimP ss).length ≤ ss.length := by
  unfold trimP
  have := (List.dropWhile_suffix (fun z : List Int => z.length == 0) (l := ss.reverse)).length_le
  simpa using this
theorem trimP_pre (ss : List (List Int)) : trimP ss = ss.take (trimP ss).length := by
  obtain ⟨t, ht⟩ := List.dropWhile_suffix (fun z : List Int => z.length == 0) (l := ss.reverse)
  have e : ss = trimP ss ++ t.reverse := by
    have := congrArg List.reverse ht
    simp only [List.reverse_append, List.reverse_reverse] at this
    exact this.symm
  conv => rhs; rw [e]
  have h2 : (trimP (trimP ss ++ t.reverse)).length = (trimP ss).length := by rw [← e]
  rw [h2]
  simp
theorem trimP_last (ss : List (List Int)) : 0 < (trimP ss).length → 0 < ((trimP ss).getD ((trimP ss).length - 1) []).length := by
  induction hn : ss.length generalizing ss with
  | zero =>
    obtain rfl := List.eq_nil_of_length_eq_zero hn
    intro h; simp [trimP] at h
  | succ n ih =>
    rcases List.eq_nil_or_concat ss with rfl | ⟨xs, z, rfl⟩
    · simp at hn
    · rw [List.concat_eq_append] at hn ⊢
      by_cases h : z.length = 0
      · rw [trimP_free xs z h]
        exact ih xs (by simpa using hn)
      · rw [trimP_end xs z h]
        intro _
        simp [List.getD]
        omega

/-- The slots with this one laid in. -/
def layP (ss : List (List Int)) (slot : Nat) (z : List Int) : List (List Int) := (ss ++ List.replicate (slot + 1 - ss.length) []).set slot z
theorem layP_length (ss : List (List Int)) (slot : Nat) (z : List Int) : (layP ss slot z).length = max ss.length (slot + 1) := by simp [layP]; omega
theorem layP_at (ss : List (List Int)) (slot : Nat) (z : List Int) (i : Nat) : (layP ss slot z).getD i [] = if i = slot then z else ss.getD i [] := by
  unfold layP
  rw [getD_set' _ _ _ _ _ (by simp; omega)]
  by_cases h : i = slot
  · rw [if_pos h, if_pos h]
  · rw [if_neg h, if_neg h, getD_app]
    by_cases h2 : i < ss.length
    · rw [if_pos h2]
    · rw [if_neg h2]
      rw [List.getD_eq_getElem?_getD, List.getD_eq_getElem?_getD, List.getElem?_eq_none (l := ss) (by omega), List.getElem?_replicate]
      split <;> simp
def zeroP : Int × List (List Int) := (0, [])
def putOk (L : Int) (ss : List (List Int)) (slot : Int) (z : List Int) (lsn : Int) : Bool :=
  okP L ss && decide (0 ≤ slot ∧ slot ≤ 15) && decide (1 ≤ z.length ∧ z.length ≤ 92) && decide (1 ≤ lsn ∧ lsn ≤ 1000000) && okP lsn (layP ss slot.toNat z)
def putP (L : Int) (ss : List (List Int)) (slot : Int) (z : List Int) (lsn : Int) : Int × List (List Int) := if putOk L ss slot z lsn = true then (lsn, layP ss slot.toNat z) else zeroP
def clearOk (L : Int) (ss : List (List Int)) (slot : Int) (lsn : Int) : Bool := okP L ss && decide (0 ≤ slot ∧ slot ≤ (ss.length : Int) - 1) && decide (1 ≤ lsn ∧ lsn ≤ 1000000)
def clearP (L : Int) (ss : List (List Int)) (slot : Int) (lsn : Int) : Int × List (List Int) := if clearOk L ss slot lsn = true then (lsn, trimP (layP ss slot.toNat [])) else zeroP

theorem lay_end {L : Int} {ss : List (List Int)} (h : okP L ss = true) {slot : Nat} {z : List Int} (hz : 0 < z.length) : 0 < (layP ss slot z).length → 0 < ((layP ss slot z).getD ((layP ss slot z).length - 1) []).length := by
  intro _
  rw [layP_at, layP_length]
  by_cases e : max ss.length (slot + 1) - 1 = slot
  · rw [if_pos e]; exact hz
  · rw [if_neg e]
    have h1 : max ss.length (slot + 1) = ss.length := by omega
    rw [h1]
    exact (okP_of h).e (by omega)
theorem lay_trim {L : Int} {ss : List (List Int)} (h : okP L ss = true) {slot : Nat} {z : List Int} (hz : 0 < z.length) : trimP (layP ss slot z) = layP ss slot z := trimP_ok (lay_end h hz)
end Go.Proofs.YtebhipicfgnajaaGreat
/- Heaps, plain: what is one, its rows, where bytes would come. No program, no conditions. -/



namespace Go.Proofs.YtebhipicfgnajaaGreat
open Go.RowKit
set_option maxRecDepth 100000

theorem box1 (w : World) (v : Value) (t : TypeId) : (w.alloc (.cells #[v] t)).cell? ⟨w.heap.size, 0, none⟩ = some v := by
  rw [cell_of_row _ _ _ _ _ _ (heap_alloc_new w _)]; rfl

def slotOk (z : List Int) : Bool := decide (z.length = 0) || (readT z).ok
def okPg (p : Pg) : Bool := okP p.1 p.2 && p.2.all slotOk
def okH (ps : List Pg) : Bool := decide (ps.length ≤ 16) && ps.all okPg
theorem all_at {α : Type} (f : α → Bool) (xs : List α) (d : α) : xs.all f = true ↔ ∀ i, i < xs.length → f (xs.getD i d) = true := by
  rw [List.all_eq_true]
  constructor
  · intro h i hi
    rw [List.getD_eq_getElem?_getD, List.getElem?_eq_getElem hi]
    exact h _ (List.getElem_mem hi)
  · intro h x hx
    obtain ⟨i, hi, e⟩ := List.getElem_of_mem hx
    have := h i hi
    rw [List.getD_eq_getElem?_getD, List.getElem?_eq_getElem hi, Option.getD_some, e] at this
    exact this
theorem okH_long {ps : List Pg} (h : 16 < ps.length) : okH ps = false := by unfold okH; rw [decide_eq_false (by omega)]; rfl
theorem okH_bad {ps : List Pg} {i : Nat} (hi : i < ps.length) (h : okPg (ps.getD i pg0) = false) : okH ps = false := by
  cases e : okH ps with
  | false => rfl
  | true =>
    unfold okH at e
    rw [Bool.and_eq_true] at e
    have := (all_at okPg ps pg0).1 e.2 i hi
    rw [h] at this; cases this
theorem okH_yes {ps : List Pg} (h : ps.length ≤ 16) (ha : ∀ i, i < ps.length → okPg (ps.getD i pg0) = true) : okH ps = true := by
  unfold okH; rw [decide_eq_true h, (all_at okPg ps pg0).2 ha]; rfl
theorem okH_of {ps : List Pg} (h : okH ps = true) : ps.length ≤ 16 ∧ ∀ i, i < ps.length → okPg (ps.getD i pg0) = true := by
  unfold okH at h
  rw [Bool.and_eq_true] at h
  exact ⟨of_decide_eq_true h.1, (all_at okPg ps pg0).1 h.2⟩
theorem okPg_p {A : Int} {ss : List (List Int)} (h : okP A ss = false) : okPg (A, ss) = false := by unfold okPg; simp only; rw [h]; rfl
theorem okPg_bad {A : Int} {ss : List (List Int)} {i : Nat} (hi : i < ss.length) (h : slotOk (ss.getD i []) = false) : okPg (A, ss) = false := by
  cases e : okPg (A, ss) with
  | false => rfl
  | true =>
    unfold okPg at e
    rw [Bool.and_eq_true] at e
    have := (all_at slotOk ss []).1 e.2 i hi
    rw [h] at this; cases this
theorem okPg_yes {A : Int} {ss : List (List Int)} (h : okP A ss = true) (ha : ∀ i, i < ss.length → slotOk (ss.getD i []) = true) : okPg (A, ss) = true := by
  unfold okPg; simp only; rw [h, (all_at slotOk ss []).2 ha]; rfl
theorem okPg_of {p : Pg} (h : okPg p = true) : okP p.1 p.2 = true ∧ ∀ i, i < p.2.length → slotOk (p.2.getD i []) = true := by
  unfold okPg at h
  rw [Bool.and_eq_true] at h
  exact ⟨h.1, (all_at slotOk p.2 []).1 h.2⟩
/-- Where n bytes would come, from page i on. -/
def placeFrom (n : Int) : Nat → List Pg → Option (Nat × Int)
  | _, [] => none
  | i, p :: ps => if 0 ≤ placeP p.1 p.2 n then some (i, placeP p.1 p.2 n) else placeFrom n (i + 1) ps
def placeH (ps : List Pg) (n : Int) : Int × Int :=
  if okH ps = true ∧ 1 ≤ n ∧ n ≤ 92 then
    match placeFrom n 0 ps with
    | some (i, k) => ((i : Int), k)
    | none => if ps.length < 16 then ((ps.length : Int), 0) else (-1, -1)
  else (-1, -1)
theorem placeFrom_some (n : Int) : ∀ (ps : List Pg) (i k : Nat), k < ps.length → (∀ j, j < k → ¬ 0 ≤ placeP (ps.getD j pg0).1 (ps.getD j pg0).2 n) → 0 ≤ placeP (ps.getD k pg0).1 (ps.getD k pg0).2 n → placeFrom n i ps = some (i + k, placeP (ps.getD k pg0).1 (ps.getD k pg0).2 n)
  | [], i, k, h, _, _ => by cases h
  | p :: ps, i, 0, _, _, h => by
    simp only [List.getD_cons_zero] at h
    unfold placeFrom; rw [if_pos h]; simp
  | p :: ps, i, k + 1, hk, hj, h => by
    have h0 := hj 0 (by omega)
    simp only [List.getD_cons_zero] at h0
    unfold placeFrom
    rw [if_neg h0, placeFrom_some n ps (i + 1) k (by simpa using hk) (fun j hj2 => by have := hj (j + 1) (by omega); simpa using this) (by simpa using h)]
    simp; omega
theorem placeFrom_none (n : Int) : ∀ (ps : List Pg) (i : Nat), (∀ j, j < ps.length → ¬ 0 ≤ placeP (ps.getD j pg0).1 (ps.getD j pg0).2 n) → placeFrom n i ps = none
  | [], _, _ => rfl
  | p :: ps, i, h => by
    have h0 := h 0 (by simp)
    simp only [List.getD_cons_zero] at h0
    unfold placeFrom
    rw [if_neg h0, placeFrom_none n ps (i + 1) (fun j hj => by have := h (j + 1) (by simpa using hj); simpa using this)]
theorem placeH_some {ps : List Pg} {n : Int} (h : okH ps = true) (hn : 1 ≤ n ∧ n ≤ 92) {i : Nat} {k : Int} (hp : placeFrom n 0 ps = some (i, k)) : placeH ps n = ((i : Int), k) := by
  unfold placeH; rw [if_pos ⟨h, hn⟩, hp]
theorem placeH_new {ps : List Pg} {n : Int} (h : okH ps = true) (hn : 1 ≤ n ∧ n ≤ 92) (hp : placeFrom n 0 ps = none) (hl : ps.length < 16) : placeH ps n = ((ps.length : Int), 0) := by
  unfold placeH; rw [if_pos ⟨h, hn⟩, hp]; simp only; rw [if_pos hl]
theorem placeH_full {ps : List Pg} {n : Int} (h : okH ps = true) (hn : 1 ≤ n ∧ n ≤ 92) (hp : placeFrom n 0 ps = none) (hl : ¬ ps.length < 16) : placeH ps n = (-1, -1) := by
  unfold placeH; rw [if_pos ⟨h, hn⟩, hp]; simp only; rw [if_neg hl]
theorem placeH_no {ps : List Pg} {n : Int} (h : ¬ (okH ps = true ∧ 1 ≤ n ∧ n ≤ 92)) : placeH ps n = (-1, -1) := by unfold placeH; rw [if_neg h]
end Go.Proofs.YtebhipicfgnajaaGreat
/- The contract of the specification's l7copy: the same page with memory of its own. Conditions: lists of at most 2^20 rows of at most 2^21 bytes. -/

namespace Go.Proofs.YtebhipicfgnajaaGreat
open Go.RowKit
set_option maxRecDepth 100000

set_option maxHeartbeats 6400000 in
theorem spec_l7copy (L : Int) {a0 : Option Addr} {n : Nat} (c0 : Nat) {ss : List (List Int)} {w : World} (h : ReadsS w a0 ss) (hl : ss.length = n) (hn : n ≤ 1048576) (hb : ∀ i, (ss.getD i []).length ≤ 2097152) :
    Calls Tryz.prog 142 #[.agg #[.int .i64 L, .slice a0 n c0]] w fun e w' => ∃ a1 c1, e = .returned (.agg #[.int .i64 L, .slice a1 n c1]) ∧ OwnP w' w.heap.size w'.heap.size (.slice a1 n c1) ss ∧ Below w.heap.size w w' := by
  obtain ⟨i0, hi, hz0, hz1, hz2⟩ := info_parts Tryz.info22
  obtain ⟨k0', ki, kz0, kz1, kz2⟩ := info_parts Tryz.info5
  obtain ⟨XZ, X1, X2, BW⟩ := three w (.cells #[.int .i64 L, .slice a0 n c0] 97) (.cells #[.int .i64 0, .slice none 0 0] 97) (.cells #[.int .i64 L, .slice none 0 0] 97)
  have X0 : (((w.alloc (.cells #[.int .i64 L, .slice a0 n c0] 97)).alloc (.cells #[.int .i64 0, .slice none 0 0] 97)).alloc (.cells #[.int .i64 L, .slice none 0 0] 97)).heap[w.heap.size]? = some (.cells #[.int .i64 L, .slice a0 n c0] 97) := by
    rw [alloc_old _ _ _ (by simp; omega), alloc_old _ _ _ (by simp)]
    exact heap_alloc_new _ _
  have HSB := hid hb
  have HH := hid h
  clear hb
  go_enter Tryz.func142, Tryz.ntmps142
  go_wp2
  generalize ((w.alloc (.cells #[.int .i64 L, .slice a0 n c0] 97)).alloc (.cells #[.int .i64 0, .slice none 0 0] 97)).alloc (.cells #[.int .i64 L, .slice none 0 0] 97) = W0 at *
  have HX0 := hid X0
  have HX1 := hid X1
  have HX2 := hid X2
  have HBW := hid BW
  have HXZ := hid XZ
  clear X0 X1 X2 BW XZ h
  go_loopw [4] (fun i wr => ∃ (k : Nat) (a : Option Addr) (c : Nat) (xs : List Value), k ≤ n ∧ i = .int .i64 k ∧ xs.length = k ∧ Hid (wr.heap[w.heap.size]? = some (.cells #[.int .i64 L, .slice a0 n c0] 97)) ∧ Hid (wr.heap[w.heap.size + 1]? = some (.cells #[.int .i64 0, .slice none 0 0] 97)) ∧ Hid (wr.heap[w.heap.size + 1 + 1]? = some (.cells #[.int .i64 L, .slice a k c] 97)) ∧ Hid (wr.ownsRow (w.heap.size + 3) 22 1 (.slice a k c) k xs) ∧ Hid (Bands wr (w.heap.size + 3) wr.heap.size xs (ss.take k)) ∧ Hid (Below w.heap.size w wr) ∧ Hid (w.heap.size + 3 ≤ wr.heap.size)) (fun i _ => n - (intOf i).toNat)
  case atStart => exact ⟨0, none, 0, [], Nat.zero_le _, rfl, rfl, HX0, HX1, HX2, hid (World.ownsRow_nil _ _ _ _), hid (by rw [List.take_zero]; exact Bands.nil _ _ _), HBW, hid (by have := HXZ.out; omega)⟩
  case round =>
    obtain ⟨k, a, c, xs, hk, rfl, hx, hr1, hr2, hr3, hown, hB, hnx, hsz⟩ := hrel
    have y0 : wr.cell? ⟨w.heap.size, 1, none⟩ = some (.slice a0 n c0) := by rw [cell_of_row _ _ _ _ _ _ hr1.out]; rfl
    by_cases hlt : k < n
    · have hlt' : (k : Int) < (n : Int) := by omega
      have hk0 : (0 : Int) ≤ (k : Int) := by omega
      have d0 : wr.cell? ⟨w.heap.size + 1 + 1, 1, none⟩ = some (.slice a k c) := by rw [cell_of_row _ _ _ _ _ _ hr3.out]; rfl
      have f0 : wr.frozen? ⟨w.heap.size + 1 + 1, 1, none⟩ = false := frozen_of_row _ _ _ _ _ hr3.out
      rcases HH.out.cells with h0 | ⟨b, off, rfl, hc⟩
      · omega
      obtain ⟨v, hcx0, ax, cx, rfl, hr0, hnil, _⟩ := hc k (by omega)
      have hbl := World.block_lt_of_cell? w _ hcx0
      have hcx : wr.cell? ⟨b, off + k, none⟩ = some (.slice ax (ss.getD k []).length cx) := (hnx.out.cell (by exact hbl)).trans hcx0
      have hr := hr0.below hnx.out (Nat.le_refl _)
      have HT := hid (take_snoc ss k [] (by omega))
      have Hbd := hid hr0.bd
      have hm2 := HSB.out k
      generalize ss.getD k [] = zs at *
      obtain ⟨m, hlen⟩ : ∃ m, zs.length = m := ⟨_, rfl⟩
      rw [hlen] at hcx hr hm2
      have HM := hid hlen
      have HR := hid hr
      have HNI := hid hnil
      have HK' := hid (show ∀ X, Below wr.heap.size wr X → X.cell? ⟨w.heap.size + 1 + 1, 1, none⟩ = some (.slice a k c) ∧ X.frozen? ⟨w.heap.size + 1 + 1, 1, none⟩ = false ∧ X.cell? ⟨w.heap.size, 1, none⟩ = some (.slice (some ⟨b, off, none⟩) n c0) ∧ X.cell? ⟨b, off + k, none⟩ = some (.slice ax m cx) from fun X bb => ⟨(bb.cell (p := ⟨w.heap.size + 1 + 1, 1, none⟩) (by have := hsz.out; show w.heap.size + 1 + 1 < _; omega)).trans d0, (bb.frozen (p := ⟨w.heap.size + 1 + 1, 1, none⟩) (by have := hsz.out; show w.heap.size + 1 + 1 < _; omega)).trans f0, (bb.cell (p := ⟨w.heap.size, 1, none⟩) (by have := hsz.out; show w.heap.size < _; omega)).trans y0, (bb.cell (p := ⟨b, off + k, none⟩) (World.block_lt_of_cell? wr _ hcx)).trans hcx⟩)
      have HNE := hid (show some (w.heap.size + 1 + 1) ≠ (Value.slice a k c).ownBlock from fun e => by have := (hown.out.lt _ e.symm).1; omega)
      have HNE0 := hid (show some w.heap.size ≠ (Value.slice a k c).ownBlock from fun e => by have := (hown.out.lt _ e.symm).1; omega)
      have HNEb := hid (show some b ≠ (Value.slice a k c).ownBlock from fun e => by have := (hown.out.lt _ e.symm).1; have : b < w.heap.size := hbl; omega)
      have H0 := hid (World.ownsRow_lit (base := wr.heap.size) (e := 5) (size := 1) wr #[] 0 (Nat.le_refl _) (Nat.zero_le _) rfl)
      clear hc hcx0 hr0 hlen hbl hr hnil
      go_wp2
      clear hcx y0 d0 f0
      refine region_K 12 (fun W => W.cell? ⟨w.heap.size + 1 + 1, 1, none⟩ = some (.slice a k c) ∧ W.frozen? ⟨w.heap.size + 1 + 1, 1, none⟩ = false ∧ W.cell? ⟨w.heap.size, 1, none⟩ = some (.slice (some ⟨b, off, none⟩) n c0) ∧ W.cell? ⟨b, off + k, none⟩ = some (.slice ax m cx)) (by kernel_rfl) ?_ (fun hHeld => ?_)
      · exact HK'.out _ ((Below.refl _ wr).drew)
      refine anyK_take (i := 0) (v := ?v101) rfl (by kernel_rfl) (by kernel_rfl) (by kernel_rfl) (by kernel_rfl) (fun _ _ _ h => h) (by rfl) hHeld ?hy101 (some 15) (by rfl) ?rest101
      case hy101 => (intro W hSw; (try dsimp only at hSw); go_simp; (try with_reducible rfl))
      try simp only [Act.put]
      try simp only [List.setIfInBounds_toArray]
      try simp only [List.set_cons_succ, List.set_cons_zero]
      refine anyK_take (i := 1) (v := ?v102) rfl (by kernel_rfl) (by kernel_rfl) (by kernel_rfl) (by kernel_rfl) (fun _ _ _ h => h) (by rfl) hHeld ?hy102 (some 16) (by rfl) ?rest102
      case hy102 => (intro W hSw; (try dsimp only at hSw); go_simp; (try with_reducible rfl))
      try simp only [Act.put]
      try simp only [List.setIfInBounds_toArray]
      try simp only [List.set_cons_succ, List.set_cons_zero]
      refine anyK_take (i := 3) (v := ?v103) rfl (by kernel_rfl) (by kernel_rfl) (by kernel_rfl) (by kernel_rfl) (fun _ _ _ h => h) (by rfl) hHeld ?hy103 (some 18) (by rfl) ?rest103
      case hy103 => (intro W hSw; (try dsimp only at hSw); go_simp; (try with_reducible rfl))
      try simp only [Act.put]
      try simp only [List.setIfInBounds_toArray]
      try simp only [List.set_cons_succ, List.set_cons_zero]
      refine anyK_take (i := 4) (v := ?v104) rfl (by kernel_rfl) (by kernel_rfl) (by kernel_rfl) (by kernel_rfl) (fun _ _ _ h => h) (by rfl) hHeld ?hy104 (some 19) (by rfl) ?rest104
      case hy104 => (intro W hSw; (try dsimp only at hSw); go_simp; (try with_reducible rfl))
      try simp only [Act.put]
      try simp only [List.setIfInBounds_toArray]
      try simp only [List.set_cons_succ, List.set_cons_zero]
      refine anyK_take (i := 5) (v := ?v105) rfl (by kernel_rfl) (by kernel_rfl) (by kernel_rfl) (by kernel_rfl) (fun _ _ _ h => h) (by rfl) hHeld ?hy105 (some 20) (by rfl) ?rest105
      case hy105 => (intro W hSw; (try dsimp only at hSw); go_simp; (try with_reducible rfl))
      try simp only [Act.put]
      try simp only [List.setIfInBounds_toArray]
      try simp only [List.set_cons_succ, List.set_cons_zero]
      refine anyK_take (i := 6) (v := ?v106) rfl (by kernel_rfl) (by kernel_rfl) (by kernel_rfl) (by kernel_rfl) (fun _ _ _ h => h) (by rfl) hHeld ?hy106 (some 21) (by rfl) ?rest106
      case hy106 => (intro W hSw; (try dsimp only at hSw); go_simp; (try with_reducible rfl))
      try simp only [Act.put]
      try simp only [List.setIfInBounds_toArray]
      try simp only [List.set_cons_succ, List.set_cons_zero]
      refine anyK_take (i := 7) (v := ?v107) rfl (by kernel_rfl) (by kernel_rfl) (by kernel_rfl) (by kernel_rfl) (fun _ _ _ h => h) (by rfl) hHeld ?hy107 (some 22) (by rfl) ?rest107
      case hy107 => (intro W hSw; (try dsimp only at hSw); go_simp; (try with_reducible rfl))
      try simp only [Act.put]
      try simp only [List.setIfInBounds_toArray]
      try simp only [List.set_cons_succ, List.set_cons_zero]
      refine anyK_step (i := 2) (by kernel_rfl) rfl (fun K hK => ?_)
      go_simp
      refine hK.out _ _ ?_ (fun hH2 => ?_)
      · exact HK'.out _ ((bel_al (Below.refl _ wr) _).drew)
      clear hK K hHeld
      have hHeld := hH2
      clear hH2
      try simp only [Act.put]
      try simp only [List.setIfInBounds_toArray]
      try simp only [List.set_cons_succ, List.set_cons_zero]
      refine anyK_step (i := 8) (by kernel_rfl) rfl (fun K hK => ?_)
      refine step_append_row (by rfl) _ _ _ (by rfl) wr.heap.size 5 k0' (.int .u8 0) 1 1 Tryz.underlying22 ki kz0 kz1 kz2 rfl (by omega) (.slice (some ⟨wr.heap.size, 0, none⟩) 0 0) 0 [] (by rfl) (by simpa using H0.out.drew) ax m cx (bys zs) (by rfl) (by rw [bys_length, HM.out, Nat.mul_one]) ((HR.out.below (bel_al (Below.refl _ wr) _).drew (Nat.le_refl _)).news' HNI.out) HR.out.nil0 (bys_one _) (by unfold maxLen; omega) (by omega) (by simp) ?_
      intro av cv u hob hgb
      rw [Nat.zero_add, List.nil_append] at hob
      have bu := ((bel_al (Below.refl wr.heap.size wr) (.cells #[] 5)).drew).grown hgb (by simp) (fun q hq => by cases hq; exact Nat.le_refl _)
      have HO1 := hid hob
      have HBU := hid bu
      clear hob hgb bu
      simp only [Nat.zero_add]
      refine hK.out _ _ ?_ (fun hH2 => ?_)
      · exact HK'.out _ HBU.out
      clear hK K hHeld
      have hHeld := hH2
      clear hH2
      try simp only [Act.put]
      try simp only [List.setIfInBounds_toArray]
      try simp only [List.set_cons_succ, List.set_cons_zero]
      refine anyK_step (i := 9) (by kernel_rfl) rfl (fun K hK => ?_)
      go_simp
      refine hK.out _ _ ?_ (fun hH2 => ?_)
      · exact HK'.out _ (bel_al HBU.out _)
      clear hK K hHeld
      have hHeld := hH2
      clear hH2
      try simp only [Act.put]
      try simp only [List.setIfInBounds_toArray]
      try simp only [List.set_cons_succ, List.set_cons_zero]
      refine anyK_step (i := 10) (by kernel_rfl) rfl (fun K hK => ?_)
      refine step_append_row (by rfl) _ _ _ (by rfl) (w.heap.size + 3) 22 i0 (.slice none 0 0) 1 24 Tryz.underlying95 hi hz0 hz1 hz2 rfl (by omega) (.slice a k c) k xs (by rfl) (owns_below (bel_al HBU.out _) (Nat.le_refl _) hown.out) (some ⟨u.heap.size, 0, none⟩) 1 1 [.slice av m cv] (by rfl) rfl (.inr ⟨_, rfl, World.news_of_block (heap_alloc_new u _)⟩) (fun e => by cases e) (by simp [Value.oneCell']) (by unfold maxLen; omega) (by omega) (by have := hsz.out; have := HBU.out.size; simp; omega) ?_
      intro g' cap w1 hown1 hgrow
      obtain ⟨s1, s2, s3, s4⟩ := HK'.out _ (bel_al HBU.out (.cells #[.slice av m cv] 22))
      have k0 := hgrow.cell s1 HNE.out
      have k1 := (hgrow.frozen_far ⟨w.heap.size + 1 + 1, 1, none⟩ (by have := hsz.out; have := HBU.out.size; simp; omega) HNE.out).trans s2
      have k2 := hgrow.cell s3 HNE0.out
      have k3 := hgrow.cell s4 HNEb.out
      clear s1 s2 s3 s4
      refine hK.out _ _ ?_ (fun hH2 => ?_)
      · exact ⟨k0, k1, k2, k3⟩
      clear hK K hHeld
      have hHeld := hH2
      clear hH2
      try simp only [Act.put]
      try simp only [List.setIfInBounds_toArray]
      try simp only [List.set_cons_succ, List.set_cons_zero]
      refine anyK_take (i := 11) (v := ?v112) rfl (by kernel_rfl) (by kernel_rfl) (by kernel_rfl) (by kernel_rfl) (fun _ _ _ h => h) (by rfl) hHeld ?hy112 (some 26) (by rfl) ?rest112
      case hy112 => (intro W hSw; (try dsimp only at hSw); go_simp; (try with_reducible rfl))
      try simp only [Act.put]
      try simp only [List.setIfInBounds_toArray]
      try simp only [List.set_cons_succ, List.set_cons_zero]
      refine anyK_last (by kernel_rfl) rfl (fun K hK => ?_)
      go_simp
      refine hK.out _ _ ?_
      clear hK K hHeld
      refine anyK_done (by kernel_rfl) ?_ _
      have bX := bel_al HBU.out (.cells #[.slice av m cv] 22)
      have hB1 := hB.out.grow hsz.out bX (by rw [HM.out]; exact HO1.out.alloc _) Hbd.out (owns_below bX (Nat.le_refl _) hown.out) (by decide) hgrow
      rw [← HT.out] at hB1
      have V1 : w1.heap[w.heap.size]? = _ := (hgrow.block w.heap.size (by have := bX.size; have := hsz.out; omega) HNE0.out).trans ((bX.block w.heap.size (by have := hsz.out; omega)).trans hr1.out)
      have V2 : w1.heap[w.heap.size + 1]? = _ := (hgrow.block (w.heap.size + 1) (by have := bX.size; have := hsz.out; omega) (fun e => by have := (hown.out.lt _ e.symm).1; omega)).trans ((bX.block (w.heap.size + 1) (by have := hsz.out; omega)).trans hr2.out)
      have V3 : w1.heap[w.heap.size + 1 + 1]? = _ := (hgrow.block (w.heap.size + 1 + 1) (by have := bX.size; have := hsz.out; omega) HNE.out).trans ((bX.block (w.heap.size + 1 + 1) (by have := hsz.out; omega)).trans hr3.out)
      have U1 := hid ((heap_set_ne w1 (w.heap.size + 1 + 1) 1 w.heap.size (.slice g' (k + 1) cap) (by omega)).trans V1)
      have U2 := hid ((heap_set_ne w1 (w.heap.size + 1 + 1) 1 (w.heap.size + 1) (.slice g' (k + 1) cap) (by omega)).trans V2)
      have U3 := hid (heap_setCell_same w1 (w.heap.size + 1 + 1) 1 _ 97 (.slice g' (k + 1) cap) V3)
      have ag : Agree (w.heap.size + 3) w1.heap.size w1 (w1.setCell ⟨w.heap.size + 1 + 1, 1, none⟩ (.slice g' (k + 1) cap)) := fun q h1 _ => heap_set_ne _ _ _ _ _ (by omega)
      have HO := hid (owns_agree hown1 ag (fun q hq => hown1.lt q hq))
      have HBs := hid (hB1.agree ag)
      have HBl := hid (((hnx.out.trans (bX.mono hnx.out.size)).grown hgrow (Nat.le_trans hnx.out.size bX.size) (fun q hq => by have := (hown.out.lt q hq).1; omega)).setCell (p := ⟨w.heap.size + 1 + 1, 1, none⟩) (by simp; omega) (.slice g' (k + 1) cap))
      have HSz := hid (show w.heap.size + 3 ≤ w1.heap.size by have := hsz.out; have := bX.size; have := hgrow.size; omega)
      clear bX hB1 V1 V2 V3 ag hown1 hgrow k0 k1 k2 k3 hr1 hr2 hr3 hown hB hnx hsz HK' HNE HNE0 HNEb HBU HO1 HR H0
      go_wp2
      go_roundw
      case rel => exact ⟨k + 1, g', cap, xs ++ [.slice av m cv], by omega, by go_num, by simp [hx], U1, U2, U3, HO, hid (by simpa using HBs.out), HBl, hid (by simpa using HSz.out)⟩
      case measure => simp [intOf]; omega
    · have hlt' : ¬ (k : Int) < (n : Int) := by omega
      obtain rfl : k = n := by omega
      have hBs := hB.out
      rw [List.take_of_length_le (by omega)] at hBs
      have OW := hid (show OwnP wr (w.heap.size + 3) wr.heap.size (.slice a k c) ss from ⟨⟨xs, by rw [hl]; exact hown.out, hBs⟩, fun g hg => (hown.out.lt g hg).2⟩)
      clear hB hBs hown
      go_wp2_with (first
        | (refine wpList_load_row rfl 97 (.tmp 3) rfl (w.heap.size + 1 + 1) rfl 97 _ (0, 0) _ hr3.out Tryz.underlying97 rfl size_pg ?_)
        | (refine wpList_store_row rfl 97 (.tmp 2) (.tmp 27) rfl (w.heap.size + 1) #[.int .i64 L, .slice a k c] rfl rfl 97 _ hr2.out ?s1 ?s2 ?s3 ?_))
      case s1 => simpa using size_pg
      case s3 => simp [Value.oneCell']
      have hz := hsz.out
      refine bodyPost_ret (results_cell_row Tryz.results142 _ _ (w.heap.size + 1) 97 #[.int .i64 L, .slice a k c] (0, 0) _ rfl (setRow_heap _ _ _ _ _ _ hr2.out) Tryz.underlying97 rfl size_pg) rfl ⟨a, c, rfl, ((OW.out.agree fun q h1 h2 => ?_).mono (by omega) (by simp)), below_setRow hnx.out (by omega) _⟩
      rw [setRow_other _ _ _ _ (by omega)]
end Go.Proofs.YtebhipicfgnajaaGreat
/- The contract of the specification's copy of a heap. Conditions: the heap is one. -/




namespace Go.Proofs.YtebhipicfgnajaaGreat
open Go.RowKit
set_option maxRecDepth 100000

theorem size_hp : (Tryz.prog.info? 26).map (·.size) = some 1 := by kernel_rfl
theorem op_alloc {w : World} {lo hi : Nat} {v : Value} {ss : List (List Int)} (h : OwnP w lo hi v ss) (o : Obj) (hh : hi ≤ w.heap.size := by exact Nat.le_refl _) : OwnP (w.alloc o) lo hi v ss := h.agree (Agree.below (Below.alloc1 w o) hh)

set_option maxHeartbeats 12800000 in
theorem spec_l10copy {ad : Option Addr} {n : Nat} (cap : Nat) {ps : List Pg} {w : World} (h : ReadsG w ad ps) (hl : ps.length = n) (hok : okH ps = true) :
    Calls Tryz.prog 90 #[.agg #[.slice ad n cap]] w fun e w' => ∃ a c, e = .returned (.agg #[.slice a n c]) ∧ OwnG w' w.heap.size w'.heap.size (.slice a n c) ps ∧ Below w.heap.size w w' := by
  obtain ⟨i0, hi, hz0, hz1, hz2⟩ := info_parts Tryz.infoPg
  have z1 := alloc_size w (.cells #[.slice ad n cap] 26)
  have z2 := alloc_size (w.alloc (.cells #[.slice ad n cap] 26)) (.cells #[.slice none 0 0] 26)
  have z3 := alloc_size ((w.alloc (.cells #[.slice ad n cap] 26)).alloc (.cells #[.slice none 0 0] 26)) (.cells #[.slice none 0 0] 26)
  have R0 : (((w.alloc (.cells #[.slice ad n cap] 26)).alloc (.cells #[.slice none 0 0] 26)).alloc (.cells #[.slice none 0 0] 26)).heap[w.heap.size]? = some (.cells #[.slice ad n cap] 26) := by
    rw [alloc_old _ _ _ (by omega), alloc_old _ _ _ (by omega)]; exact heap_alloc_new _ _
  have R1 : (((w.alloc (.cells #[.slice ad n cap] 26)).alloc (.cells #[.slice none 0 0] 26)).alloc (.cells #[.slice none 0 0] 26)).heap[w.heap.size + 1]? = some (.cells #[.slice none 0 0] 26) := by
    rw [alloc_old _ _ _ (by omega)]
    have := heap_alloc_new (w.alloc (.cells #[.slice ad n cap] 26)) (.cells #[.slice none 0 0] 26)
    rwa [z1] at this
  have R2 : (((w.alloc (.cells #[.slice ad n cap] 26)).alloc (.cells #[.slice none 0 0] 26)).alloc (.cells #[.slice none 0 0] 26)).heap[w.heap.size + 1 + 1]? = some (.cells #[.slice none 0 0] 26) := by
    have := heap_alloc_new ((w.alloc (.cells #[.slice ad n cap] 26)).alloc (.cells #[.slice none 0 0] 26)) (.cells #[.slice none 0 0] 26)
    rwa [z2, z1] at this
  have BW : Below w.heap.size w (((w.alloc (.cells #[.slice ad n cap] 26)).alloc (.cells #[.slice none 0 0] 26)).alloc (.cells #[.slice none 0 0] 26)) := (((Below.refl _ w).alloc (Nat.le_refl _) _).alloc (by omega) _).alloc (by omega) _
  have HZ := hid (show (((w.alloc (.cells #[.slice ad n cap] 26)).alloc (.cells #[.slice none 0 0] 26)).alloc (.cells #[.slice none 0 0] 26)).heap.size = w.heap.size + 3 by omega)
  have HX0 := hid R0
  have HX1 := hid R1
  have HX2 := hid R2
  have HBW := hid BW
  have HH := hid h
  have HO := hid hok
  have hn16 : n ≤ 16 := by have := (okH_of hok).1; omega
  clear R0 R1 R2 BW z1 z2 z3 h hok
  go_enter Tryz.func90, Tryz.ntmps90
  go_wp2
  generalize ((w.alloc (.cells #[.slice ad n cap] 26)).alloc (.cells #[.slice none 0 0] 26)).alloc (.cells #[.slice none 0 0] 26) = W0 at *
  go_loopw [4] (fun i wr => ∃ (k : Nat) (a : Option Addr) (c : Nat), k ≤ n ∧ i = .int .i64 k ∧ Hid (wr.heap[w.heap.size]? = some (.cells #[.slice ad n cap] 26)) ∧ Hid (wr.heap[w.heap.size + 1]? = some (.cells #[.slice none 0 0] 26)) ∧ Hid (wr.heap[w.heap.size + 1 + 1]? = some (.cells #[.slice a k c] 26)) ∧ Hid (OwnG wr (w.heap.size + 3) wr.heap.size (.slice a k c) (ps.take k)) ∧ Hid (Below w.heap.size w wr) ∧ Hid (w.heap.size + 3 ≤ wr.heap.size)) (fun i _ => n - (intOf i).toNat)
  case atStart => exact ⟨0, none, 0, Nat.zero_le _, rfl, HX0, HX1, HX2, hid (by rw [List.take_zero]; exact OwnG.nil _ _ _), HBW, hid (by have := HZ.out; omega)⟩
  case round =>
    obtain ⟨k, a, c, hk, rfl, hr1, hr2, hr3, hown, hnx, hsz⟩ := hrel
    have y0 : wr.cell? ⟨w.heap.size, 0, none⟩ = some (.slice ad n cap) := by rw [cell_of_row _ _ _ _ _ _ hr1.out]; rfl
    by_cases hlt : k < n
    · have hlt' : (k : Int) < (n : Int) := by omega
      have hk0 : (0 : Int) ≤ (k : Int) := by omega
      have d0 : wr.cell? ⟨w.heap.size + 1 + 1, 0, none⟩ = some (.slice a k c) := by rw [cell_of_row _ _ _ _ _ _ hr3.out]; rfl
      have f0 : wr.frozen? ⟨w.heap.size + 1 + 1, 0, none⟩ = false := frozen_of_row _ _ _ _ _ hr3.out
      obtain ⟨b, off, ap, cp, rfl, hca0, hcx0, hr0, hmx⟩ := HH.out.at (k := k) (by omega)
      have hpg := okPg_of ((okH_of HO.out).2 k (by omega))
      have h16 := (okP_of hpg.1).n
      have hz92 := (okP_of hpg.1).z
      have hbl := World.block_lt_of_cell? w _ hca0
      have hca := (hnx.out.cell (p := ⟨b, off + k * 2, none⟩) hbl).trans hca0
      have hcx := (hnx.out.cell (p := ⟨b, off + k * 2 + 1, none⟩) hbl).trans hcx0
      have HT := hid (take_snocG ps k (by omega))
      have hrp := hr0.below hnx.out (Nat.le_refl _)
      have hlk : (ps.take k).length = k := by rw [List.length_take]; omega
      generalize ps.getD k pg0 = p at *
      obtain ⟨A, ss⟩ := p
      obtain ⟨m, hm⟩ : ∃ m, ss.length = m := ⟨_, rfl⟩
      dsimp only at hcx hca hrp hz92 h16
      rw [hm] at hcx h16
      have HM := hid hm
      have HZ92 := hid hz92
      have HRP := hid hrp
      have HLK := hid hlk
      have HK' := hid (show ∀ X, Below wr.heap.size wr X → X.cell? ⟨w.heap.size + 1 + 1, 0, none⟩ = some (.slice a k c) ∧ X.frozen? ⟨w.heap.size + 1 + 1, 0, none⟩ = false ∧ X.cell? ⟨w.heap.size, 0, none⟩ = some (.slice (some ⟨b, off, none⟩) n cap) ∧ X.cell? ⟨b, off + k * 2, none⟩ = some (.int .i64 A) ∧ X.cell? ⟨b, off + k * 2 + 1, none⟩ = some (.slice ap m cp) from fun X bb => ⟨(bb.cell (p := ⟨w.heap.size + 1 + 1, 0, none⟩) (World.block_lt_of_cell? wr _ d0)).trans d0, (bb.frozen (p := ⟨w.heap.size + 1 + 1, 0, none⟩) (World.block_lt_of_cell? wr _ d0)).trans f0, (bb.cell (p := ⟨w.heap.size, 0, none⟩) (World.block_lt_of_cell? wr _ y0)).trans y0, (bb.cell (p := ⟨b, off + k * 2, none⟩) (World.block_lt_of_cell? wr _ hca)).trans hca, (bb.cell (p := ⟨b, off + k * 2 + 1, none⟩) (World.block_lt_of_cell? wr _ hcx)).trans hcx⟩)
      have HNE := hid (show ∀ q, q < w.heap.size + 3 → some q ≠ (Value.slice a k c).ownBlock from fun q hq e => by obtain ⟨ys, bs, ow, _⟩ := hown.out.own; have := (ow.lt _ e.symm).1; omega)
      have HBLT := hid (show b < w.heap.size from hbl)
      clear hca0 hcx0 hr0 hmx hm hbl hpg hz92 hrp hlk
      go_wp2
      clear hca hcx y0 d0 f0
      have BD := hid ((Still.drew wr).below wr.heap.size)
      refine region_K 11 (fun W => W.cell? ⟨w.heap.size + 1 + 1, 0, none⟩ = some (.slice a k c) ∧ W.frozen? ⟨w.heap.size + 1 + 1, 0, none⟩ = false ∧ W.cell? ⟨w.heap.size, 0, none⟩ = some (.slice (some ⟨b, off, none⟩) n cap) ∧ W.cell? ⟨b, off + k * 2, none⟩ = some (.int .i64 A) ∧ W.cell? ⟨b, off + k * 2 + 1, none⟩ = some (.slice ap m cp)) (by kernel_rfl) ?_ (fun hHeld => ?_)
      · exact HK'.out _ BD.out
      generalize wr.drew = v0 at *
      refine anyK_take (i := 0) (v := ?v1) rfl (by kernel_rfl) (by kernel_rfl) (by kernel_rfl) (by kernel_rfl) (fun _ _ _ h => h) (by rfl) hHeld ?hy1 (some 12) (by rfl) ?rest1
      case hy1 => (intro W hSw; obtain ⟨r0, r1, r2, r3, r4⟩ := hSw; go_simp; (try with_reducible rfl))
      try simp only [Act.put]
      try simp only [List.setIfInBounds_toArray]
      try simp only [List.set_cons_succ, List.set_cons_zero]
      refine anyK_take (i := 1) (v := ?v2) rfl (by kernel_rfl) (by kernel_rfl) (by kernel_rfl) (by kernel_rfl) (fun _ _ _ h => h) (by rfl) hHeld ?hy2 (some 13) (by rfl) ?rest2
      case hy2 => (intro W hSw; obtain ⟨r0, r1, r2, r3, r4⟩ := hSw; go_simp; (try with_reducible rfl))
      try simp only [Act.put]
      try simp only [List.setIfInBounds_toArray]
      try simp only [List.set_cons_succ, List.set_cons_zero]
      refine anyK_take (i := 2) (v := ?v3) rfl (by kernel_rfl) (by kernel_rfl) (by kernel_rfl) (by kernel_rfl) (fun _ _ _ h => h) (by rfl) hHeld ?hy3 (some 14) (by rfl) ?rest3
      case hy3 => (intro W hSw; obtain ⟨r0, r1, r2, r3, r4⟩ := hSw; go_simp; (try with_reducible rfl))
      try simp only [Act.put]
      try simp only [List.setIfInBounds_toArray]
      try simp only [List.set_cons_succ, List.set_cons_zero]
      refine anyK_take (i := 3) (v := ?v4) rfl (by kernel_rfl) (by kernel_rfl) (by kernel_rfl) (by kernel_rfl) (fun _ _ _ h => h) (by rfl) hHeld ?hy4 (some 15) (by rfl) ?rest4
      case hy4 => (intro W hSw; obtain ⟨r0, r1, r2, r3, r4⟩ := hSw; go_simp; (try with_reducible rfl))
      try simp only [Act.put]
      try simp only [List.setIfInBounds_toArray]
      try simp only [List.set_cons_succ, List.set_cons_zero]
      refine anyK_take (i := 4) (v := ?v5) rfl (by kernel_rfl) (by kernel_rfl) (by kernel_rfl) (by kernel_rfl) (fun _ _ _ h => h) (by rfl) hHeld ?hy5 (some 16) (by rfl) ?rest5
      case hy5 => (intro W hSw; obtain ⟨r0, r1, r2, r3, r4⟩ := hSw; go_simp; (try with_reducible rfl))
      try simp only [Act.put]
      try simp only [List.setIfInBounds_toArray]
      try simp only [List.set_cons_succ, List.set_cons_zero]
      refine anyK_take (i := 5) (v := ?v6) rfl (by kernel_rfl) (by kernel_rfl) (by kernel_rfl) (by kernel_rfl) (fun _ _ _ h => h) (by rfl) hHeld ?hy6 (some 17) (by rfl) ?rest6
      case hy6 => (intro W hSw; obtain ⟨r0, r1, r2, r3, r4⟩ := hSw; go_simp; (try with_reducible rfl))
      try simp only [Act.put]
      try simp only [List.setIfInBounds_toArray]
      try simp only [List.set_cons_succ, List.set_cons_zero]
      refine anyK_take (i := 6) (v := ?v7) rfl (by kernel_rfl) (by kernel_rfl) (by kernel_rfl) (by kernel_rfl) (fun _ _ _ h => h) (by rfl) hHeld ?hy7 (some 18) (by rfl) ?rest7
      case hy7 => (intro W hSw; obtain ⟨r0, r1, r2, r3, r4⟩ := hSw; go_simp; (try with_reducible rfl))
      try simp only [Act.put]
      try simp only [List.setIfInBounds_toArray]
      try simp only [List.set_cons_succ, List.set_cons_zero]
      refine anyK_step (i := 7) (by kernel_rfl) rfl (fun KP hK => ?_)
      go_simp
      refine (spec_l7copy A cp (HRP.out.below BD.out (Nat.le_refl _)).rd HM.out (by omega) (fun i => by have := HZ92.out i; omega)).mono ?_
      rintro e u ⟨a1, c1, rfl, op, bu⟩
      have BU := hid (BD.out.trans (bu.mono BD.out.size))
      have OP := hid op
      have SZ := hid (show wr.heap.size ≤ v0.heap.size from BD.out.size)
      clear bu op
      go_wp2_with fail
      refine hK.out _ _ ?_ (fun hH2 => ?_)
      · exact HK'.out _ BU.out
      clear hK KP hHeld
      have hHeld := hH2
      clear hH2
      try simp only [Act.put]
      try simp only [List.setIfInBounds_toArray]
      try simp only [List.set_cons_succ, List.set_cons_zero]
      refine anyK_step (i := 8) (by kernel_rfl) rfl (fun KP hK => ?_)
      go_simp
      refine hK.out _ _ ?_ (fun hH2 => ?_)
      · exact HK'.out _ (BU.out.trans ((Below.alloc1 u _).mono BU.out.size))
      clear hK KP hHeld
      have hHeld := hH2
      clear hH2
      try simp only [Act.put]
      try simp only [List.setIfInBounds_toArray]
      try simp only [List.set_cons_succ, List.set_cons_zero]
      have bX := Below.alloc1 u (.cells #[.int .i64 A, .slice a1 m c1] 97)
      have BX := hid (BU.out.trans (bX.mono BU.out.size))
      have ZX := hid (alloc_size u (.cells #[.int .i64 A, .slice a1 m c1] 97))
      have hOG := hown.out.below BX.out (Nat.le_refl _)
      obtain ⟨ys, bs, ow, hBd, hq⟩ := hOG.own
      have hTop := hOG.top
      rw [HLK.out] at ow
      have OW := hid ow
      have HBd := hid hBd
      have HQ := hid hq
      have HTop := hid hTop
      have OPX := hid (op_alloc OP.out (.cells #[.int .i64 A, .slice a1 m c1] 97))
      clear bX hOG ow hBd hq hTop
      refine anyK_step (i := 9) (by kernel_rfl) rfl (fun KP hK => ?_)
      refine step_append_at (by rfl) _ _ _ (by rfl) (w.heap.size + 3) 97 i0 _ 2 32 Tryz.underlying24 hi hz0 hz1 hz2 rfl (by omega) (.slice a k c) k _ (by rfl) OW.out ⟨u.heap.size, 0, none⟩ 1 1 [.int .i64 A, .slice a1 m c1] (by rfl) rfl ?n1 ?n2 (by unfold maxLen; omega) (by omega) ?n3 ?_
      case n1 => exact World.news_of_block (heap_alloc_new u (.cells #[.int .i64 A, .slice a1 m c1] 97))
      case n2 => intro q hq; simp only [List.mem_cons, List.not_mem_nil, or_false] at hq; rcases hq with rfl | rfl <;> rfl
      case n3 => have := hsz.out; have := BX.out.size; omega
      intro g' c' w1 hown1 hgrow hpl
      obtain ⟨s1, s2, s3, s4, s5⟩ := HK'.out _ BX.out
      have k0 := hgrow.cell s1 (HNE.out (w.heap.size + 1 + 1) (by omega))
      have k1 := (hgrow.frozen_far ⟨w.heap.size + 1 + 1, 0, none⟩ (by have := hsz.out; have := BX.out.size; show w.heap.size + 1 + 1 < _; omega) (HNE.out (w.heap.size + 1 + 1) (by omega))).trans s2
      have k2 := hgrow.cell s3 (HNE.out w.heap.size (by omega))
      have k3 := hgrow.cell s4 (HNE.out b (by have := HBLT.out; omega))
      have k4 := hgrow.cell s5 (HNE.out b (by have := HBLT.out; omega))
      clear s1 s2 s3 s4 s5
      have OG1 := hid (OwnG.push (A := A) HLK.out OW.out HBd.out HQ.out HTop.out hsz.out SZ.out (Nat.le_refl _) (by have := BX.out.size; omega) (OPX.out.mono (Nat.le_refl _) (by have := ZX.out; omega)) hown1 hgrow hpl)
      have HG := hid hgrow
      refine hK.out _ _ ?_ (fun hH2 => ?_)
      · exact ⟨k0, k1, k2, k3, k4⟩
      clear hK KP hHeld
      have hHeld := hH2
      clear hH2
      try simp only [Act.put]
      try simp only [List.setIfInBounds_toArray]
      try simp only [List.set_cons_succ, List.set_cons_zero]
      refine anyK_take (i := 10) (v := ?v8) rfl (by kernel_rfl) (by kernel_rfl) (by kernel_rfl) (by kernel_rfl) (fun _ _ _ h => h) (by rfl) hHeld ?hy8 (some 22) (by rfl) ?rest8
      case hy8 => (intro W hSw; obtain ⟨r0, r1, r2, r3, r4⟩ := hSw; go_simp; (try with_reducible rfl))
      try simp only [Act.put]
      try simp only [List.setIfInBounds_toArray]
      try simp only [List.set_cons_succ, List.set_cons_zero]
      refine anyK_last (by kernel_rfl) rfl (fun KP hK => ?_)
      go_simp
      refine hK.out _ _ ?_
      clear hK KP hHeld
      refine anyK_done (by kernel_rfl) ?_ _
      have hgrow := HG.out
      have hzz := hsz.out
      have hbz := BX.out.size
      have V1 : w1.heap[w.heap.size]? = _ := (hgrow.block w.heap.size (by omega) (HNE.out _ (by omega))).trans ((BX.out.block w.heap.size (by omega)).trans hr1.out)
      have V2 : w1.heap[w.heap.size + 1]? = _ := (hgrow.block (w.heap.size + 1) (by omega) (HNE.out _ (by omega))).trans ((BX.out.block (w.heap.size + 1) (by omega)).trans hr2.out)
      have V3 : w1.heap[w.heap.size + 1 + 1]? = _ := (hgrow.block (w.heap.size + 1 + 1) (by omega) (HNE.out _ (by omega))).trans ((BX.out.block (w.heap.size + 1 + 1) (by omega)).trans hr3.out)
      have U1 := hid ((heap_set_ne w1 (w.heap.size + 1 + 1) 0 w.heap.size (.slice g' (k + 1) c') (by omega)).trans V1)
      have U2 := hid ((heap_set_ne w1 (w.heap.size + 1 + 1) 0 (w.heap.size + 1) (.slice g' (k + 1) c') (by omega)).trans V2)
      have U3 := hid (heap_setCell_same w1 (w.heap.size + 1 + 1) 0 _ 26 (.slice g' (k + 1) c') V3)
      have ag : Agree (w.heap.size + 3) w1.heap.size w1 (w1.setCell ⟨w.heap.size + 1 + 1, 0, none⟩ (.slice g' (k + 1) c')) := fun q h1 _ => heap_set_ne _ _ _ _ _ (by omega)
      have HOG := hid (OG1.out.agree ag)
      have HBl := hid (((hnx.out.trans (BX.out.mono hnx.out.size)).grown hgrow (Nat.le_trans hnx.out.size BX.out.size) (fun q hq => Nat.le_of_not_lt (fun e => HNE.out q (by omega) hq.symm))).setCell (p := ⟨w.heap.size + 1 + 1, 0, none⟩) (by simp; omega) (.slice g' (k + 1) c'))
      have HSz := hid (show w.heap.size + 3 ≤ w1.heap.size by have := hgrow.size; omega)
      clear V1 V2 V3 ag hown1 hgrow hpl k0 k1 k2 k3 k4 hr1 hr2 hr3 hown hnx hsz HK' HNE HG OG1 OW HBd HQ HTop OPX BX BU hzz hbz
      go_wp2
      go_roundw
      case rel => exact ⟨k + 1, g', c', by omega, by go_num, U1, U2, U3, hid (by rw [HT.out]; simpa using HOG.out), HBl, hid (by simpa using HSz.out)⟩
      case measure => simp [intOf]; omega
    · have hlt' : ¬ (k : Int) < (n : Int) := by omega
      obtain rfl : k = n := by omega
      have OW := hid (show OwnG wr (w.heap.size + 3) wr.heap.size (.slice a k c) ps by have := hown.out; rwa [List.take_of_length_le (by omega)] at this)
      have d0 : wr.cell? ⟨w.heap.size + 1 + 1, 0, none⟩ = some (.slice a k c) := by rw [cell_of_row _ _ _ _ _ _ hr3.out]; rfl
      clear hown
      go_wp2_with (refine wpList_store_row rfl 26 (.tmp 2) (.tmp 23) rfl (w.heap.size + 1) #[.slice a k c] rfl rfl 26 _ hr2.out ?s1 ?s2 ?s3 ?_)
      case s1 => simpa using size_hp
      case s3 => simp [Value.oneCell']
      have hz := hsz.out
      refine bodyPost_ret (results_cell_row Tryz.results90 _ _ (w.heap.size + 1) 26 #[.slice a k c] (0, 0) _ rfl (setRow_heap _ _ _ _ _ _ hr2.out) Tryz.underlying26 rfl size_hp) rfl ⟨a, c, rfl, ((OW.out.agree fun q h1 h2 => ?_).mono (by omega) (by simp)), below_setRow hnx.out (by omega) _⟩
      rw [setRow_other _ _ _ _ (by omega)]
end Go.Proofs.YtebhipicfgnajaaGreat
