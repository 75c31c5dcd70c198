/- errors.Is at a sentinel of errors.New's make, and the contract of the program's diskCode. Conditions: the two variables hold two different sentinels. -/
import Derived.Test.YtnnnehjlegjejaaDoorDm
import Derived.WalkKit
import Derived.LaidEql
import Derived.Stop.Asserts
import Derived.RowKitTokens
namespace Go.Proofs.YtnnnehjlegjejaaDoor
open Go.RowKit Go.Extern.Stop Go.Stop Go.Extern

theorem Tryd.eType (v : Value) (w : World) : (Extern.ReflectliteType.typeOf #[.iface 114 v]).run Tryd.prog w = .ok (.iface 105 (.agg #[.pointer (some ⟨2, 114, none⟩)])) w := by kernel_rfl
noncomputable def cmpM := Extern.ReflectliteType.method fun t => do Go.Extern.Rtype.noPackHeld "Comparable" t; pure (.bool (← typeInfo t).comparable)
theorem Tryd.eCmp (w : World) : (cmpM #[.agg #[.pointer (some ⟨2, 114, none⟩)]]).run Tryd.prog w = .ok (.bool true) w := by kernel_rfl
theorem Tryd.eMeth (v : Value) (w : World) : (Go.method 252 105 v "Comparable").run Tryd.prog w = .ok (89, v) w := by kernel_rfl
theorem Tryd.eComp : (Tryd.prog.info? 114).map (·.comparable) = some true := by kernel_rfl
theorem Tryd.eSize : (Tryd.prog.info? 140).map (·.size) = some 1 := by kernel_rfl
theorem Tryd.eNo1 (v : Value) (xT : TypeId) (w : World) : (Instr.typeAssert (.iface 114 v) xT 107 true).run Tryd.prog w = .ok (.tuple #[.nilIface, .bool false]) w := run_typeAssert_lacksB Tryd.underlying107 (by kernel_rfl) (by kernel_rfl) v xT w
theorem Tryd.eNo2 (v : Value) (xT : TypeId) (w : World) : (Instr.typeAssert (.iface 114 v) xT 110 true).run Tryd.prog w = .ok (.tuple #[.nilIface, .bool false]) w := run_typeAssert_lacksB Tryd.underlying110 (by kernel_rfl) (by kernel_rfl) v xT w
theorem Tryd.eNo3 (v : Value) (xT : TypeId) (w : World) : (Instr.typeAssert (.iface 114 v) xT 111 true).run Tryd.prog w = .ok (.tuple #[.nilIface, .bool false]) w := run_typeAssert_lacksB Tryd.underlying111 (by kernel_rfl) (by kernel_rfl) v xT w

set_option maxRecDepth 100000 in
/-- A sentinel asked for itself. -/
theorem is_it (a : Addr) (w : World) : Calls Tryd.prog 60 #[.iface 114 (.pointer (some a)), .iface 114 (.pointer (some a))] w fun e w' => e = .returned (.bool true) ∧ w' = w := by
  obtain ⟨i, hi, hcmp⟩ := Option.map_eq_some_iff.1 Tryd.eComp
  obtain ⟨j, hj, hjs⟩ := Option.map_eq_some_iff.1 Tryd.eSize
  have x1 := @run_callFunc_extern Tryd.prog 68 _ Extern.ReflectliteType.typeOf Tryd.func68 (by kernel_rfl) (by kernel_rfl) (by kernel_rfl) (by kernel_rfl)
  have x2 := @run_callFunc_extern Tryd.prog 89 _ cmpM Tryd.func89 (by kernel_rfl) (by kernel_rfl) (by kernel_rfl) (by kernel_rfl)
  have y1 := Tryd.eType
  have y2 := Tryd.eCmp
  have y3 := Tryd.eMeth
  have q := run_eql_iface_ptr_same (P := Tryd.prog) w a Tryd.underlying68 Tryd.underlying114 hi hcmp hj
  go_enter Tryd.func60, Tryd.ntmps60
  go_wp2
  refine wp_loop_rounds 1 ?_
  rw [rounds_succ]
  go_wp2
  go_ret
  exact ⟨rfl, rfl⟩

set_option maxRecDepth 100000 in
/-- One sentinel asked for another. -/
theorem is_not (a b : Addr) (ca cb : Array Value) (ta tb : TypeId) (w : World) (hne : a ≠ b) (ha : w.heap[a.block]? = some (.cells ca ta (0, 0))) (hb : w.heap[b.block]? = some (.cells cb tb (0, 0))) :
    Calls Tryd.prog 60 #[.iface 114 (.pointer (some a)), .iface 114 (.pointer (some b))] w fun e w' => e = .returned (.bool false) ∧ w' = w := by
  obtain ⟨i, hi, hcmp⟩ := Option.map_eq_some_iff.1 Tryd.eComp
  obtain ⟨j, hj, hjs⟩ := Option.map_eq_some_iff.1 Tryd.eSize
  have x1 := @run_callFunc_extern Tryd.prog 68 _ Extern.ReflectliteType.typeOf Tryd.func68 (by kernel_rfl) (by kernel_rfl) (by kernel_rfl) (by kernel_rfl)
  have x2 := @run_callFunc_extern Tryd.prog 89 _ cmpM Tryd.func89 (by kernel_rfl) (by kernel_rfl) (by kernel_rfl) (by kernel_rfl)
  have y1 := Tryd.eType
  have y2 := Tryd.eCmp
  have y3 := Tryd.eMeth
  have n1 := Tryd.eNo1
  have n2 := Tryd.eNo2
  have n3 := Tryd.eNo3
  have q := run_eql_iface_ptr_other (P := Tryd.prog) w Tryd.underlying68 Tryd.underlying114 hi hcmp hj (by rw [hjs]; decide) hne ha hb
  go_enter Tryd.func60, Tryd.ntmps60
  go_wp2
  refine wp_loop_rounds 1 ?_
  rw [rounds_succ]
  go_wp2
  go_ret
  exact ⟨rfl, rfl⟩

/-- The two variables: the full disk's sentinel in the first, the ended disk's in the second; both are older than B. -/
structure Sents (w : World) (B : Nat) (a0 a1 : Addr) (c0 c1 : Array Value) (t0 t1 : TypeId) : Prop where
  v0 : w.cell? ⟨0, 0, none⟩ = some (.iface 114 (.pointer (some a0)))
  v1 : w.cell? ⟨1, 0, none⟩ = some (.iface 114 (.pointer (some a1)))
  ne : a0 ≠ a1
  h0 : w.heap[a0.block]? = some (.cells c0 t0 (0, 0))
  h1 : w.heap[a1.block]? = some (.cells c1 t1 (0, 0))
  b0 : 1 < B
  l0 : a0.block < B
  l1 : a1.block < B
theorem Sents.below {w w' : World} {B : Nat} {a0 a1 : Addr} {c0 c1 : Array Value} {t0 t1 : TypeId} (h : Sents w B a0 a1 c0 c1 t0 t1) (b : Below B w w') : Sents w' B a0 a1 c0 c1 t0 t1 :=
  ⟨(b.cell (p := ⟨0, 0, none⟩) (by have := h.b0; show 0 < B; omega)).trans h.v0, (b.cell (p := ⟨1, 0, none⟩) h.b0).trans h.v1, h.ne, (b.block _ h.l0).trans h.h0, (b.block _ h.l1).trans h.h1, h.b0, h.l0, h.l1⟩
theorem Sents.up {w : World} {B C : Nat} {a0 a1 : Addr} {c0 c1 : Array Value} {t0 t1 : TypeId} (h : Sents w B a0 a1 c0 c1 t0 t1) (hB : B ≤ C) : Sents w C a0 a1 c0 c1 t0 t1 :=
  ⟨h.v0, h.v1, h.ne, h.h0, h.h1, Nat.lt_of_lt_of_le h.b0 hB, Nat.lt_of_lt_of_le h.l0 hB, Nat.lt_of_lt_of_le h.l1 hB⟩

/-- What a call that changes a disk in place answers: nil, the full disk's sentinel or the ended disk's. -/
inductive Code : Value → Addr → Addr → Int → Prop where
  | well (a0 a1 : Addr) : Code .nilIface a0 a1 0
  | full (a0 a1 : Addr) : Code (.iface 114 (.pointer (some a0))) a0 a1 2
  | down (a0 a1 : Addr) : Code (.iface 114 (.pointer (some a1))) a0 a1 3

set_option maxRecDepth 100000 in
theorem disk_code {w : World} {B : Nat} {a0 a1 : Addr} {c0 c1 : Array Value} {t0 t1 : TypeId} (h : Sents w B a0 a1 c0 c1 t0 t1) {v : Value} {n : Int} (hv : Code v a0 a1 n) :
    Calls Tryd.prog 39 #[v] w fun e w' => e = .returned (.int .i64 n) ∧ w' = w := by
  have v0 := h.v0
  have v1 := h.v1
  cases hv with
  | well =>
    have q := run_eql_iface_nil_left (P := Tryd.prog) w 114 (.pointer (some a0)) Tryd.underlying68
    go_enter Tryd.func39, Tryd.ntmps39
    go_wp2_with fail
    go_ret
    exact ⟨rfl, rfl⟩
  | full =>
    go_enter Tryd.func39, Tryd.ntmps39
    go_wp2_with fail
    refine (is_it a0 w).mono ?_
    rintro e w' ⟨rfl, rfl⟩
    go_wp2_with fail
    go_ret
    exact ⟨rfl, rfl⟩
  | down =>
    go_enter Tryd.func39, Tryd.ntmps39
    go_wp2_with fail
    refine (is_not a1 a0 _ _ _ _ w h.ne.symm h.h1 h.h0).mono ?_
    rintro e w' ⟨rfl, rfl⟩
    go_wp2_with fail
    refine (is_it a1 w').mono ?_
    rintro e w' ⟨rfl, rfl⟩
    go_wp2_with fail
    go_ret
    exact ⟨rfl, rfl⟩
end Go.Proofs.YtnnnehjlegjejaaDoor
